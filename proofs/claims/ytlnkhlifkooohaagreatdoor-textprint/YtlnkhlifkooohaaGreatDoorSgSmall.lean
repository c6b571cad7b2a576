/- What package signal's within, turned, isLetter, isDigit and Name answer; a signal as it came in. -/
import Derived.Test.YtlnkhlifkooohaaGreatDoorBase0
import Derived.Test.YtlnkhlifkooohaaGreatDoorSigMath
namespace Go.Proofs.YtlnkhlifkooohaaGreatDoor
open Go.ChangeShapes Go.WideShapes Go.ChangeAt Go.RowKit
namespace Bw
open Sm

/-- a signal as it came in -/
structure Sig where
  nm : ByteArray
  st : Int
  sz : Int
  bk : Bool
  sg : Bool
  mu : Int
  di : Int
  ad : Int
  ky : Int
def sgV (s : Sig) : Value := .agg #[.string s.nm, .int .i64 s.st, .int .i64 s.sz, .bool s.bk, .bool s.sg, .int .i64 s.mu, .int .i64 s.di, .int .i64 s.ad, .int .i64 s.ky]
def sgC (s : Sig) : Obj := .cells #[.string s.nm, .int .i64 s.st, .int .i64 s.sz, .bool s.bk, .bool s.sg, .int .i64 s.mu, .int .i64 s.di, .int .i64 s.ad, .int .i64 s.ky] 42
/-- block g holds a signal -/
structure SgAt (w : World) (g : Nat) (s : Sig) : Prop where
  c0 : w.cell? ⟨g, 0, none⟩ = some (.string s.nm)
  c1 : w.cell? ⟨g, 1, none⟩ = some (.int .i64 s.st)
  c2 : w.cell? ⟨g, 2, none⟩ = some (.int .i64 s.sz)
  c3 : w.cell? ⟨g, 3, none⟩ = some (.bool s.bk)
  c4 : w.cell? ⟨g, 4, none⟩ = some (.bool s.sg)
  c5 : w.cell? ⟨g, 5, none⟩ = some (.int .i64 s.mu)
  c6 : w.cell? ⟨g, 6, none⟩ = some (.int .i64 s.di)
  c7 : w.cell? ⟨g, 7, none⟩ = some (.int .i64 s.ad)
  c8 : w.cell? ⟨g, 8, none⟩ = some (.int .i64 s.ky)
theorem SgAt.kept {w w' : World} {g : Nat} {s : Sig} (h : SgAt w g s) (hb : Below w.heap.size w w') : SgAt w' g s :=
  ⟨cell_kept hb h.c0, cell_kept hb h.c1, cell_kept hb h.c2, cell_kept hb h.c3, cell_kept hb h.c4, cell_kept hb h.c5, cell_kept hb h.c6, cell_kept hb h.c7, cell_kept hb h.c8⟩
theorem SgAt.box (w : World) (s : Sig) : SgAt (w.alloc (sgC s)) w.heap.size s := by
  have h := fun j => cell_of_row (w.alloc (sgC s)) w.heap.size j _ _ _ (heap_alloc_new w _)
  exact ⟨h 0, h 1, h 2, h 3, h 4, h 5, h 6, h 7, h 8⟩
theorem sg_box (w : World) (s : Sig) : Below w.heap.size w (w.alloc (sgC s)) := (Below.refl _ _).alloc (Nat.le_refl _) _
theorem drB {w a : World} (h : Below w.heap.size w a) (n : Nat) : Below w.heap.size w (a.drewN n) := bl2 h ⟨rfl, rfl, rfl, Nat.le_refl _, fun _ _ => rfl⟩

theorem ret_b {b c : Bool} (h : b = c) : Ending.returned (.bool b) = .returned (.bool c) := by rw [h]
def inB (n lo hi : Int) : Bool := decide (lo ≤ n) && decide (n ≤ hi)
theorem inB_yes {n lo hi : Int} (h : lo ≤ n ∧ n ≤ hi) : inB n lo hi = true := by unfold inB; simp [h.1, h.2]
theorem inB_no {n lo hi : Int} (h : ¬ (lo ≤ n ∧ n ≤ hi)) : inB n lo hi = false := by
  unfold inB
  rw [Bool.and_eq_false_iff, decide_eq_false_iff_not, decide_eq_false_iff_not]
  omega
theorem inB_iff {n lo hi : Int} : inB n lo hi = true ↔ lo ≤ n ∧ n ≤ hi := by unfold inB; simp
set_option maxHeartbeats 1000000 in
theorem swithin_any (n lo hi : Int) (w : World) :
    Calls Tryz.prog 126 #[.int .i64 n, .int .i64 lo, .int .i64 hi] w fun e w' => e = .returned (.bool (inB n lo hi)) ∧ w' = w := by
  by_cases h0 : lo ≤ n
  · by_cases h1 : n ≤ hi
    · rw [inB_yes ⟨h0, h1⟩]
      go_enter Tryz.func126, Tryz.ntmps126
      go_wp2_with fail
      go_ret
      exact ⟨rfl, rfl⟩
    · rw [inB_no (fun h => h1 h.2)]
      go_enter Tryz.func126, Tryz.ntmps126
      go_wp2_with fail
      go_ret
      exact ⟨rfl, rfl⟩
  · rw [inB_no (fun h => h0 h.1)]
    go_enter Tryz.func126, Tryz.ntmps126
    go_wp2_with fail
    go_ret
    exact ⟨rfl, rfl⟩

/-- a number with its lowest three bits turned -/
def flipI (x : Int) : Int := 8 * (x / 8) + 7 - x % 8
theorem xor7 (u : Nat) : u ^^^ 7 = flipN u := by
  have h0 : ∀ r, r < 8 → r ^^^ 7 = 7 - r := by decide
  have e : u = 8 * (u / 8) + u % 8 := by omega
  unfold flipN
  have key : (u ^^^ 7) / 8 = u / 8 ∧ (u ^^^ 7) % 8 = 7 - u % 8 := by
    constructor
    · have := Nat.shiftRight_xor_distrib (a := u) (b := 7) (i := 3)
      simp only [Nat.shiftRight_eq_div_pow] at this
      simpa using this
    · have := Nat.xor_mod_two_pow (a := u) (b := 7) (n := 3)
      simp only [Nat.reducePow] at this
      rw [this, h0 _ (by omega)]
  omega
theorem flip_i64 (x : Int) (h1 : -9223372036854775808 ≤ x) (h2 : x ≤ 9223372036854775807) : bits .xor .i64 x 7 = flipI x := by
  have e : IntKind.i64.bits = 64 := rfl
  have e7 : ((7 : Int) % ((2 ^ 64 : Nat) : Int)).toNat = 7 := rfl
  simp only [bits, BitVec.toNat_xor, e, BitVec.toNat_ofInt]
  rw [e7, xor7, IntKind.wrap_i64]
  unfold flipN flipI
  have e2 : ((2 ^ 64 : Nat) : Int) = 18446744073709551616 := rfl
  rw [e2]
  omega
theorem flipI_nat (x : Nat) : flipI (x : Int) = (flipN x : Int) := by unfold flipI flipN; omega
theorem flipI_lo (x : Int) (h : -9223372036854775808 ≤ x) : -9223372036854775808 ≤ flipI x := by unfold flipI; omega
theorem flipI_hi (x : Int) (h : x ≤ 9223372036854775807) : flipI x ≤ 9223372036854775807 := by unfold flipI; omega
set_option maxHeartbeats 1000000 in
theorem turned_any (x : Int) (w : World) (h1 : -9223372036854775808 ≤ x) (h2 : x ≤ 9223372036854775807) :
    Calls Tryz.prog 130 #[.int .i64 x] w fun e w' => e = .returned (.int .i64 (flipI x)) ∧ w' = w := by
  have e := flip_i64 x h1 h2
  go_enter Tryz.func130, Tryz.ntmps130
  go_wp2_with fail
  go_ret
  exact ⟨rfl, rfl⟩

def letterN (n : Nat) : Bool := decide (97 ≤ n ∧ n ≤ 122 ∨ 65 ≤ n ∧ n ≤ 90)
def digitN (n : Nat) : Bool := decide (48 ≤ n ∧ n ≤ 57)
set_option maxHeartbeats 1000000 in
theorem letter_any (n : Nat) (w : World) (h : n < 256) :
    Calls Tryz.prog 117 #[.int .u8 n] w fun e w' => e = .returned (.bool (letterN n)) ∧ w' = w := by
  rcases Nat.lt_or_ge n 65 with h1 | h1
  · rw [show letterN n = false by unfold letterN; simp; omega]
    have a1 : (n : Int) < 65 := by omega
    go_enter Tryz.func117, Tryz.ntmps117
    go_wp2_with fail
    go_ret
    exact ⟨ret_b (by first | rfl | (simp; omega)), rfl⟩
  · rcases Nat.lt_or_ge 90 n with h2 | h2
    · rcases Nat.lt_or_ge n 97 with h3 | h3
      · rw [show letterN n = false by unfold letterN; simp; omega]
        have a1 : (n : Int) < 97 := by omega
        have a2 : (90 : Int) < (n : Int) := by omega
        go_enter Tryz.func117, Tryz.ntmps117
        go_wp2_with fail
        go_ret
        exact ⟨ret_b (by first | rfl | (simp; omega)), rfl⟩
      · rcases Nat.lt_or_ge 122 n with h4 | h4
        · rw [show letterN n = false by unfold letterN; simp; omega]
          have a1 : (122 : Int) < (n : Int) := by omega
          go_enter Tryz.func117, Tryz.ntmps117
          go_wp2_with fail
          go_ret
          exact ⟨ret_b (by first | rfl | (simp; omega)), rfl⟩
        · rw [show letterN n = true by unfold letterN; simp; omega]
          have a1 : (97 : Int) ≤ (n : Int) := by omega
          have a2 : (n : Int) ≤ 122 := by omega
          go_enter Tryz.func117, Tryz.ntmps117
          go_wp2_with fail
          go_ret
          exact ⟨ret_b (by first | rfl | (simp; omega)), rfl⟩
    · rw [show letterN n = true by unfold letterN; simp; omega]
      have a1 : (65 : Int) ≤ (n : Int) := by omega
      have a2 : (n : Int) ≤ 90 := by omega
      go_enter Tryz.func117, Tryz.ntmps117
      go_wp2_with fail
      go_ret
      exact ⟨ret_b (by first | rfl | (simp; omega)), rfl⟩
set_option maxHeartbeats 1000000 in
theorem digit_any (n : Nat) (w : World) (h : n < 256) :
    Calls Tryz.prog 118 #[.int .u8 n] w fun e w' => e = .returned (.bool (digitN n)) ∧ w' = w := by
  rcases Nat.lt_or_ge n 48 with h1 | h1
  · rw [show digitN n = false by unfold digitN; simp; omega]
    have a1 : (n : Int) < 48 := by omega
    go_enter Tryz.func118, Tryz.ntmps118
    go_wp2_with fail
    go_ret
    exact ⟨ret_b (by first | rfl | (simp; omega)), rfl⟩
  · rcases Nat.lt_or_ge 57 n with h2 | h2
    · rw [show digitN n = false by unfold digitN; simp; omega]
      have a1 : (57 : Int) < (n : Int) := by omega
      go_enter Tryz.func118, Tryz.ntmps118
      go_wp2_with fail
      go_ret
      exact ⟨ret_b (by first | rfl | (simp; omega)), rfl⟩
    · rw [show digitN n = true by unfold digitN; simp; omega]
      have a1 : (48 : Int) ≤ (n : Int) := by omega
      have a2 : (n : Int) ≤ 57 := by omega
      go_enter Tryz.func118, Tryz.ntmps118
      go_wp2_with fail
      go_ret
      exact ⟨ret_b (by first | rfl | (simp; omega)), rfl⟩
/-- may a byte stand behind the first one of a name? -/
def alnumN (n : Nat) : Bool := letterN n || digitN n
def nameB (l : List UInt8) : Bool := decide (1 ≤ l.length) && decide (l.length ≤ 16) && letterN (l.getD 0 0).toNat && l.all fun c => alnumN c.toNat
theorem name_long {l : List UInt8} (h : 16 < l.length) : nameB l = false := by
  unfold nameB
  rw [show decide (l.length ≤ 16) = false by simp; omega]
  simp
theorem name_hit {l : List UInt8} {k : Nat} (hk : k < l.length) (h : alnumN (l.getD k 0).toNat = false) : nameB l = false := by
  unfold nameB
  have : (l.all fun c => alnumN c.toNat) = false := by
    rw [List.all_eq_false]
    refine ⟨l.getD k 0, ?_, by rw [h]; simp⟩
    simp only [List.getD, List.getElem?_eq_getElem hk, Option.getD_some]
    exact List.getElem_mem _
  rw [this]
  simp
theorem name_all {l : List UInt8} (h1 : 1 ≤ l.length) (h2 : l.length ≤ 16) (h3 : letterN (l.getD 0 0).toNat = true) (h4 : ∀ k, k < l.length → alnumN (l.getD k 0).toNat = true) : nameB l = true := by
  unfold nameB
  have : (l.all fun c => alnumN c.toNat) = true := by
    rw [List.all_eq_true]
    intro c hc
    obtain ⟨k, hk, rfl⟩ := List.getElem_of_mem hc
    have := h4 k hk
    simpa only [List.getD, List.getElem?_eq_getElem hk, Option.getD_some] using this
  rw [this, h3]
  simp [h1, h2]
theorem sat_getD (s : ByteArray) (k : Nat) (h : k < s.size) : s[k] = s.data.toList.getD k 0 := by
  show s.data[k] = _
  have h' : k < s.data.size := h
  simp only [List.getD, Array.getElem?_toList, Array.getElem?_eq_getElem h', Option.getD_some]
theorem sz_len (s : ByteArray) : s.data.toList.length = s.size := by simp
set_option maxHeartbeats 2000000 in
theorem sname_any (s : ByteArray) (w : World) (hs : s.size ≤ 9223372036854775807) :
    Calls Tryz.prog 72 #[.string s] w fun e w' => e = .returned (.bool (nameB s.data.toList)) ∧ w' = w := by
  have hl := sz_len s
  by_cases h0 : s.size = 0
  · have e : nameB s.data.toList = false := by unfold nameB; rw [hl, h0]; rfl
    rw [e]
    have a0 : (s.size : Int) < 1 := by omega
    clear e hl h0 hs
    go_enter Tryz.func72, Tryz.ntmps72
    go_wp2_with fail
    go_ret
    exact ⟨rfl, rfl⟩
  by_cases h1 : 16 < s.size
  · have e : nameB s.data.toList = false := name_long (by omega)
    rw [e]
    have a0 : (16 : Int) < (s.size : Int) := by omega
    clear e hl h1 hs h0
    go_enter Tryz.func72, Tryz.ntmps72
    go_wp2_with fail
    go_ret
    exact ⟨rfl, rfl⟩
  have hb : ∀ k, k < s.size → (s.data.toList.getD k 0).toNat < 256 := fun k _ => UInt8.toNat_lt _
  have hat : ∀ k (h : k < s.size), (s[k].toNat : Int) = (((s.data.toList.getD k 0).toNat : Nat) : Int) := fun k h => by rw [sat_getD s k h]
  obtain ⟨B, hB⟩ : ∃ B : Nat → Nat, B = fun k => (s.data.toList.getD k 0).toNat := ⟨_, rfl⟩
  have hB0 : ∀ k, (s.data.toList.getD k 0).toNat = B k := fun k => by rw [hB]
  simp only [hB0] at hb hat
  have HB := Hid.mk hB0
  have HL := Hid.mk hl
  have a1 : (1 : Int) ≤ (s.size : Int) := by omega
  have a2 : (s.size : Int) ≤ 16 := by omega
  have hlen : 0 < s.size := by omega
  have HAT := Hid.mk hat
  have HBB := Hid.mk hb
  clear hB hB0 hl hat hb h0 h1 hs
  have hat0 := HAT.out 0 hlen
  generalize hE : letterN (B 0) = e0
  have hLT := fun W => letter_any (B 0) W (HBB.out 0 hlen)
  rw [hE] at hLT
  have HLT := Hid.mk hLT
  clear hLT
  cases e0 with
  | false =>
    have hr : nameB s.data.toList = false := by
      unfold nameB
      rw [HB.out 0, hE]; simp
    rw [hr]
    clear hr hE
    go_enter Tryz.func72, Tryz.ntmps72
    go_wp2_with fail
    refine (HLT.out _).mono ?_
    rintro e w1 ⟨rfl, hw1⟩
    obtain rfl := hw1.symm
    go_wp2_with fail
    go_ret
    exact ⟨rfl, rfl⟩
  | true =>
    have HE := Hid.mk hE
    clear hE
    go_enter Tryz.func72, Tryz.ntmps72
    go_wp2_with fail
    refine (HLT.out _).mono ?_
    rintro e w1 ⟨rfl, hw1⟩
    obtain rfl := hw1.symm
    clear hat0 HLT
    go_wp2_with fail
    go_loopw [20] (fun i wr => ∃ k : Nat, k ≤ s.size ∧ i = .int .i64 k ∧ Hid (∀ j, j < k → alnumN (B j) = true) ∧ wr = w) (fun i _ => s.size - (intOf i).toNat)
    case atStart => exact ⟨0, Nat.zero_le _, rfl, Hid.mk (fun j hj => absurd hj (Nat.not_lt_zero _)), rfl⟩
    case round =>
      obtain ⟨k, hk, rfl, HA, rfl⟩ := hrel
      by_cases hlt : k < s.size
      · have hlt' : (k : Int) < (s.size : Int) := by omega
        have hatk := HAT.out k hlt
        have hLk := fun W => letter_any (B k) W (HBB.out k hlt)
        have hDk := fun W => digit_any (B k) W (HBB.out k hlt)
        generalize hEL : letterN (B k) = eL at *
        generalize hED : digitN (B k) = eD at *
        have hAL : alnumN (B k) = (eL || eD) := by unfold alnumN; rw [hEL, hED]
        have HAL := Hid.mk hAL
        have HLk := Hid.mk hLk
        have HDk := Hid.mk hDk
        clear hEL hED hAL hLk hDk
        cases eL with
        | true =>
          go_wp2_with fail
          refine (HLk.out _).mono ?_
          rintro e w1 ⟨rfl, hw1⟩
          obtain rfl := hw1.symm
          go_wp2_with fail
          go_roundw
          case rel => exact ⟨k + 1, by omega, by go_num, Hid.mk (fun j hj => by
            rcases Nat.lt_or_ge j k with h | h
            · exact HA.out j h
            · have : j = k := by omega
              subst this
              rw [HAL.out]; rfl), trivial⟩
          case measure => simp [intOf]; omega
        | false =>
          cases eD with
          | true =>
            go_wp2_with fail
            refine (HLk.out _).mono ?_
            rintro e w1 ⟨rfl, hw1⟩
            obtain rfl := hw1.symm
            go_wp2_with fail
            refine (HDk.out _).mono ?_
            rintro e w1 ⟨rfl, hw1⟩
            obtain rfl := hw1.symm
            go_wp2_with fail
            go_roundw
            case rel => exact ⟨k + 1, by omega, by go_num, Hid.mk (fun j hj => by
              rcases Nat.lt_or_ge j k with h | h
              · exact HA.out j h
              · have : j = k := by omega
                subst this
                rw [HAL.out]; rfl), trivial⟩
            case measure => simp [intOf]; omega
          | false =>
            have hr : nameB s.data.toList = false := name_hit (k := k) (by rw [HL.out]; exact hlt) (by rw [HB.out, HAL.out]; rfl)
            have HR := Hid.mk hr
            clear hr
            go_wp2_with fail
            refine (HLk.out _).mono ?_
            rintro e w1 ⟨rfl, hw1⟩
            obtain rfl := hw1.symm
            go_wp2_with fail
            refine (HDk.out _).mono ?_
            rintro e w1 ⟨rfl, hw1⟩
            obtain rfl := hw1.symm
            go_wp2_with fail
            go_ret
            exact ⟨by rw [HR.out]; rfl, rfl⟩
      · have e : k = s.size := by omega
        subst e
        have hr : nameB s.data.toList = true := name_all (by rw [HL.out]; exact hlen) (by rw [HL.out]; omega) (by rw [HB.out]; exact HE.out) (fun k hk => by rw [HB.out]; exact HA.out k (by rw [HL.out] at hk; exact hk))
        have HR := Hid.mk hr
        clear hr
        go_wp2_with fail
        go_ret
        exact ⟨by rw [HR.out]; rfl, rfl⟩
end Bw
end Go.Proofs.YtlnkhlifkooohaaGreatDoor
