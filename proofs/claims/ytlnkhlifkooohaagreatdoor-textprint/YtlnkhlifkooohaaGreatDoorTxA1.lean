/- What the reader of package text makes of a right line of a message: readMessage. -/
import Derived.Test.YtlnkhlifkooohaaGreatDoorTxF1
import Derived.Lib.CountLaws
import Derived.Lib.Split
import Derived.Lib.Atoi
import Derived.Lib.Strings
import Derived.Test.YtlnkhlifkooohaaGreatDoorBase8
import Derived.Deep.RegionHeld3
import Derived.Deep.DeepCutAuto
import Derived.RegionTactic
import Derived.Deep.RegionHeld
namespace Go.Proofs.YtlnkhlifkooohaaGreatDoor
open Go.ChangeShapes Go.WideShapes Go.ChangeAt Go.RowKit Go.Sort
namespace Bw
open Sm
theorem index_at {c : UInt8} : ∀ {a b : List UInt8}, c ∉ a → Lib.index (a ++ c :: b) [c] = (a.length : Int)
  | [], b, _ => by simp [Lib.index]
  | x :: a, b, h => by
    have h1 : c ∉ a := fun e => h (by simp [e])
    have h2 : ¬ c = x := fun e => h (by simp [e])
    have ih := index_at (b := b) h1
    rw [List.cons_append]
    unfold Lib.index
    have h3 : ([c].isPrefixOf (x :: (a ++ c :: b))) = false := by simp [List.isPrefixOf, h2]
    rw [h3, ih]
    rw [if_neg (by simp), if_neg (by simp)]
    simp
theorem index_no {c : UInt8} : ∀ {a : List UInt8}, c ∉ a → Lib.index a [c] = -1
  | [], _ => by simp [Lib.index]
  | x :: a, h => by
    have h1 : c ∉ a := fun e => h (by simp [e])
    have h2 : ¬ c = x := fun e => h (by simp [e])
    have ih := index_no h1
    unfold Lib.index
    have h3 : ([c].isPrefixOf (x :: a)) = false := by simp [List.isPrefixOf, h2]
    rw [h3, ih]
    simp
theorem cut_at {c : UInt8} {a b : List UInt8} (h : c ∉ a) : Lib.cut (a ++ c :: b) [c] = (a, b, true) := by
  unfold Lib.cut
  rw [index_at h, if_pos (by omega)]
  have e : ((a.length : Int)).toNat = a.length := by omega
  rw [e]
  simp
theorem join_two (x y : List UInt8) (r : List (List UInt8)) (c : UInt8) : Lib.join (x :: y :: r) [c] = x ++ c :: Lib.join (y :: r) [c] := by
  rw [Lib.join_cons, Lib.join_cons]
  simp [Lib.joinTail]
theorem count_join {c : UInt8} : ∀ (x : List UInt8) (r : List (List UInt8)), (∀ y ∈ x :: r, c ∉ y) → Lib.count (Lib.join (x :: r) [c]) [c] = r.length
  | x, [], h => by
    rw [Lib.join_one]
    exact Lib.count_miss (index_no (h x (by simp)))
  | x, y :: r, h => by
    rw [join_two]
    have h1 := index_at (b := Lib.join (y :: r) [c]) (h x (by simp))
    rw [Lib.count_hit (by simp) h1]
    have ih := count_join y r (fun z hz => h z (by simp only [List.mem_cons] at hz ⊢; exact .inr hz))
    have e : (x ++ c :: Lib.join (y :: r) [c]).drop (x.length + [c].length) = Lib.join (y :: r) [c] := by simp
    rw [e, ih, List.length_cons]
    omega
theorem split_join {c : UInt8} : ∀ (x : List UInt8) (r : List (List UInt8)), (∀ y ∈ x :: r, c ∉ y) → Lib.splitK [c] 0 r.length (Lib.join (x :: r) [c]) = x :: r
  | x, [], h => by rw [Lib.join_one]; rfl
  | x, y :: r, h => by
    rw [join_two]
    have h1 := index_at (b := Lib.join (y :: r) [c]) (h x (by simp))
    have ih := split_join y r (fun z hz => h z (by simp only [List.mem_cons] at hz ⊢; exact .inr hz))
    rw [List.length_cons]
    unfold Lib.splitK
    rw [h1, if_neg (by simp)]
    have e0 : ((x.length : Int)).toNat = x.length := by omega
    have e : (x ++ c :: Lib.join (y :: r) [c]).drop (x.length + [c].length) = Lib.join (y :: r) [c] := by simp
    rw [e0, e, ih]
    simp
theorem map_bA {l : List ByteArray} {ws : List (List UInt8)} (h : l.map (·.data.toList) = ws) : l = ws.map bA := by
  subst h
  rw [List.map_map]
  conv => lhs; rw [← List.map_id l]
  exact List.map_congr_left (fun x _ => by simp [bA_of])
theorem split_words {ws : List (List UInt8)} (h0 : ws ≠ []) (h : ∀ y ∈ ws, (32 : UInt8) ∉ y) : Lib.countB (bA (Lib.join ws [32])) ⟨#[32]⟩ + 1 = ws.length ∧ Lib.splitB ⟨#[32]⟩ 0 (Lib.countB (bA (Lib.join ws [32])) ⟨#[32]⟩) (bA (Lib.join ws [32])) = ws.map bA := by
  cases ws with
  | nil => exact absurd rfl h0
  | cons x r =>
    have hc : Lib.countB (bA (Lib.join (x :: r) [32])) ⟨#[32]⟩ = r.length := by
      show Lib.count (bA (Lib.join (x :: r) [32])).data.toList [32] = _
      rw [bA_list]
      exact count_join x r h
    refine ⟨by rw [hc]; rfl, ?_⟩
    rw [hc]
    refine map_bA ?_
    rw [Lib.splitB_data, bA_list]
    exact split_join x r h
theorem suf_yes (x : List UInt8) (c : UInt8) : Lib.hasSuffix (x ++ [c]) [c] = true ∧ Lib.trimSuffix (x ++ [c]) [c] = x := by
  have h1 : Lib.hasSuffix (x ++ [c]) [c] = true := by
    unfold Lib.hasSuffix
    rw [List.isSuffixOf_iff_suffix]
    exact List.suffix_append _ _
  refine ⟨h1, ?_⟩
  unfold Lib.trimSuffix
  rw [if_pos h1]
  simp
theorem suf_no {x : List UInt8} {c d : UInt8} (h : ¬ d = c) : Lib.hasSuffix (x ++ [c]) [d] = false := by
  cases hh : Lib.hasSuffix (x ++ [c]) [d] with
  | false => rfl
  | true =>
    exfalso
    unfold Lib.hasSuffix at hh
    rw [List.isSuffixOf_iff_suffix] at hh
    obtain ⟨t, ht⟩ := hh
    have h1 := congrArg List.reverse ht
    simp at h1
    exact h h1.1
theorem dig_mem : ∀ (f u : Nat), u < 10 ^ f → ∀ b ∈ Lib.decDigits u, 48 ≤ b.toNat ∧ b.toNat ≤ 57
  | 0, u, h, b, hb => by
    have h0 : u = 0 := by simpa using h
    subst h0
    rw [Lib.decDigits_one (by omega)] at hb
    simp at hb
    subst hb
    decide
  | f + 1, u, h, b, hb => by
    by_cases h10 : u < 10
    · rw [Lib.decDigits_one h10] at hb
      simp only [List.mem_singleton] at hb
      subst hb
      rw [UInt8.toNat_ofNat']
      omega
    · rw [Lib.decDigits, dif_neg h10, List.mem_append] at hb
      rcases hb with hb | hb
      · exact dig_mem f (u / 10) (by rw [Nat.pow_succ] at h; omega) b hb
      · simp only [List.mem_singleton] at hb
        subst hb
        rw [UInt8.toNat_ofNat']
        omega
theorem dec_app : ∀ (l : List UInt8) (acc n : Nat) (b : UInt8) (d : Nat), Lib.decFrom acc l = some n → Lib.digitVal b = some d → Lib.decFrom acc (l ++ [b]) = some (n * 10 + d)
  | [], acc, n, b, d, h, hd => by
    simp only [Lib.decFrom, Option.some.injEq] at h
    subst h
    simp [Lib.decFrom, hd]
  | x :: l, acc, n, b, d, h, hd => by
    rw [List.cons_append]
    unfold Lib.decFrom at h ⊢
    cases hx : Lib.digitVal x with
    | none => rw [hx] at h; cases h
    | some e =>
      rw [hx] at h
      exact dec_app l _ n b d h hd
theorem dig_val {u : Nat} (h : u < 10) : Lib.digitVal (UInt8.ofNat (48 + u)) = some u := by
  unfold Lib.digitVal
  have e : (UInt8.ofNat (48 + u)).toNat = 48 + u := by rw [UInt8.toNat_ofNat']; omega
  rw [e, if_pos (by omega)]
  simp
theorem dec_dig : ∀ (f u : Nat), u < 10 ^ f → Lib.decFrom 0 (Lib.decDigits u) = some u
  | 0, u, h => by
    have h0 : u = 0 := by simpa using h
    subst h0
    rw [Lib.decDigits_one (by omega)]
    rfl
  | f + 1, u, h => by
    by_cases h10 : u < 10
    · rw [Lib.decDigits_one h10]
      have := dec_app [] 0 0 _ u rfl (dig_val h10)
      simpa using this
    · rw [Lib.decDigits, dif_neg h10]
      have ih := dec_dig f (u / 10) (by rw [Nat.pow_succ] at h; omega)
      rw [dec_app _ 0 _ _ (u % 10) ih (dig_val (by omega))]
      congr 1
      omega
theorem dig_ne (u : Nat) : Lib.decDigits u ≠ [] := by
  intro e
  have h1 := Lib.decDigits_length u
  have h2 := Lib.nDigits_pos u
  rw [e] at h1
  simp at h1
  omega
theorem lt_pow (u : Nat) : u < 10 ^ u := Nat.lt_pow_self (by omega)
theorem atoi_itoa (n : Int) : Lib.atoi (Lib.itoa n) = some n := by
  unfold Lib.itoa
  split
  · rename_i hn
    unfold Lib.atoi Lib.decNat
    simp only
    rw [if_pos (by decide)]
    have h1 : (Lib.decDigits n.natAbs).isEmpty = false := by
      cases hh : Lib.decDigits n.natAbs with
      | nil => exact absurd hh (dig_ne _)
      | cons _ _ => rfl
    rw [h1, dec_dig _ _ (lt_pow _)]
    simp only [Bool.false_eq_true, if_false, Option.map_some]
    congr 1
    omega
  · rename_i hn
    cases hh : Lib.decDigits n.toNat with
    | nil => exact absurd hh (dig_ne _)
    | cons b r =>
      have hb := dig_mem _ _ (lt_pow n.toNat) b (by rw [hh]; simp)
      have h45 : ¬ b = 45 := fun e => by subst e; exact absurd hb.1 (by decide)
      have h43 : ¬ b = 43 := fun e => by subst e; exact absurd hb.1 (by decide)
      unfold Lib.atoi Lib.decNat
      simp only
      rw [if_neg (by simpa using h45), if_neg (by simpa using h43)]
      have h2 := dec_dig _ _ (lt_pow n.toNat)
      rw [hh] at h2
      rw [h2]
      simp only [List.isEmpty_cons, Bool.false_eq_true, if_false, Option.map_some]
      congr 1
      omega
/-- a byte of a number -/
def numC (b : UInt8) : Prop := b = 45 ∨ (48 ≤ b.toNat ∧ b.toNat ≤ 57)
theorem itoa_mem {n : Int} {b : UInt8} (h : b ∈ Lib.itoa n) : numC b := by
  unfold Lib.itoa at h
  split at h
  · rw [List.mem_cons] at h
    rcases h with h | h
    · exact .inl h
    · exact .inr (dig_mem _ _ (lt_pow _) b h)
  · exact .inr (dig_mem _ _ (lt_pow _) b h)
theorem not_num {c : UInt8} {n : Int} (h1 : ¬ c = 45) (h2 : ¬ (48 ≤ c.toNat ∧ c.toNat ≤ 57)) : c ∉ Lib.itoa n := fun h => by
  rcases itoa_mem h with h | h
  · exact h1 h
  · exact h2 h
theorem not_name {c : UInt8} {l : List UInt8} (h : nameB l = true) (hc : alnumN c.toNat = false) : c ∉ l := fun hm => by
  unfold nameB at h
  rw [Bool.and_eq_true] at h
  have h1 := List.all_eq_true.1 h.2 c hm
  rw [hc] at h1
  cases h1
theorem itoa_ne (n : Int) : Lib.itoa n ≠ [] := fun e => by have := itoa_pos n; rw [e] at this; simp at this
theorem name_ne {l : List UInt8} (h : nameB l = true) : l ≠ [] := fun e => by have := (nm_len h).1; rw [e] at this; simp at this
/-- words that may stand in a line -/
def WordOk (y : List UInt8) : Prop := (32 : UInt8) ∉ y ∧ (10 : UInt8) ∉ y ∧ y ≠ []
theorem ok_itoa (n : Int) : WordOk (Lib.itoa n) := ⟨not_num (by decide) (by decide), not_num (by decide) (by decide), itoa_ne n⟩
theorem ok_name {l : List UInt8} (h : nameB l = true) : WordOk l := ⟨not_name h (by decide), not_name h (by decide), name_ne h⟩
theorem ok_app {a b : List UInt8} (h1 : WordOk a) (h2 : (32 : UInt8) ∉ b ∧ (10 : UInt8) ∉ b) : WordOk (a ++ b) :=
  ⟨fun h => by rw [List.mem_append] at h; exact h.elim h1.1 h2.1, fun h => by rw [List.mem_append] at h; exact h.elim h1.2.1 h2.2, fun e => h1.2.2 (by simpa using (List.append_eq_nil_iff.1 e).1)⟩
theorem wordsM_ok {m : Msg} (h : MB m) : ∀ y ∈ wordsM m, WordOk y := by
  intro y hy
  unfold wordsM at hy
  simp only [List.mem_cons, List.not_mem_nil, or_false] at hy
  rcases hy with rfl | rfl | rfl | rfl | rfl
  · exact ⟨by decide, by decide, by decide⟩
  · exact ok_name h.nm
  · unfold lxL
    refine ok_app (ok_itoa _) ?_
    split <;> exact ⟨by decide, by decide⟩
  · exact ok_itoa _
  · unfold chL
    split
    · have h1 := h.ch1
      exact ok_name (h.sb _ (m.mem (by omega))).nm
    · exact ⟨by decide, by decide, by decide⟩
theorem wordsS_ok {s : Sig} (h : SB s) : ∀ y ∈ wordsS s, WordOk y := by
  intro y hy
  unfold wordsS at hy
  simp only [List.mem_cons, List.not_mem_nil, or_false] at hy
  rcases hy with rfl | rfl | rfl | rfl | rfl | rfl
  · exact ⟨by decide, by decide, by decide⟩
  · exact ok_name h.nm
  · unfold plL bkL sgL
    refine ok_app (ok_app (ok_app (ok_app (ok_itoa _) ⟨by decide, by decide⟩) ⟨(ok_itoa _).1, (ok_itoa _).2.1⟩) ?_) ?_
    · split <;> exact ⟨by decide, by decide⟩
    · split <;> exact ⟨by decide, by decide⟩
  · unfold faL
    exact ok_app (ok_app (ok_itoa _) ⟨by decide, by decide⟩) ⟨(ok_itoa _).1, (ok_itoa _).2.1⟩
  · exact ok_itoa _
  · unfold kyT
    split
    · exact ok_itoa _
    · exact ⟨by decide, by decide, by decide⟩
theorem join_no {c : UInt8} (hc : ¬ c = 32) : ∀ (ws : List (List UInt8)), (∀ y ∈ ws, c ∉ y) → c ∉ Lib.join ws [32]
  | [], _ => by simp [Lib.join_nil]
  | [x], h => by rw [Lib.join_one]; exact h x (by simp)
  | x :: y :: r, h => by
    rw [join_two]
    have ih := join_no hc (y :: r) (fun z hz => h z (by simp only [List.mem_cons] at hz ⊢; exact .inr hz))
    intro hm
    rw [List.mem_append, List.mem_cons] at hm
    rcases hm with hm | hm | hm
    · exact h x (by simp) hm
    · exact hc hm
    · exact ih hm
/-- the first line of a text, and the rest -/
theorem cut_line {ws : List (List UInt8)} (h : ∀ y ∈ ws, WordOk y) (rest : List UInt8) : Lib.cut (lineL ws ++ rest) [10] = (Lib.join ws [32], rest, true) := by
  unfold lineL
  rw [List.append_assoc]
  exact cut_at (join_no (by decide) ws (fun y hy => (h y hy).2.1))
theorem no_empty {ws : List (List UInt8)} (h : ∀ y ∈ ws, WordOk y) : Lib.containsS (ws.map bA) ⟨#[]⟩ = false := by
  cases hh : Lib.containsS (ws.map bA) ⟨#[]⟩ with
  | false => rfl
  | true =>
    rw [Lib.containsS_iff, List.mem_map] at hh
    obtain ⟨y, hy, e⟩ := hh
    exact absurd (bA_inj (show bA y = bA [] from e)) (h y hy).2.2
end Bw
end Go.Proofs.YtlnkhlifkooohaaGreatDoor
namespace Go.Proofs.YtlnkhlifkooohaaGreatDoor
open Go.ChangeShapes Go.WideShapes Go.ChangeAt Go.RowKit Go.Sort
namespace Bw
open Sm
set_option maxHeartbeats 1000000 in
theorem need_ok (p : Value) (w : World) :
    Calls Tryz.prog 113 #[p, .bool true] w fun e w' => e = .returned (.tuple #[]) ∧ w' = w := by
  go_enter Tryz.func113, Tryz.ntmps113
  go_wp2_with fail
  go_end0
  exact ⟨rfl, rfl⟩
theorem bytesW_below (w : World) (e : TypeId) (s : ByteArray) : Below w.heap.size w (Lib.bytesWorld w e s) := ⟨rfl, rfl, rfl, by rw [Lib.bytesWorld_size]; omega, fun j hj => Lib.bytesWorld_at_old w e s j hj⟩
theorem bb_eq (a : ByteArray) : (a.toList == a.toList) = true := by simp
set_option maxHeartbeats 2000000 in
set_option maxRecDepth 100000 in
theorem number_ok (p : Value) (n : Int) (w : World) (h0 : -10000000000 < n) (h1 : n < 10000000000) (hT : TxT w) :
    Calls Tryz.prog 173 #[p, .string (bA (Lib.itoa n))] w fun e w' => e = .returned (.int .i64 n) ∧ Below w.heap.size w w' := by
  have HA : Hid (Calls Tryz.prog 197 #[.string (bA (Lib.itoa n))] w fun e w' => e = .returned (.tuple #[.int .i64 n, .nilIface]) ∧ Below w.heap.size w w') := Hid.mk ((Tryz.strconv_Atoi (bA (Lib.itoa n)) n (by rw [bA_size]; have := itoa_len h0 h1; omega) (by rw [bA_list]; exact atoi_itoa n) w).mono (by
    rintro e w' ⟨rfl, t, rfl⟩
    exact ⟨rfl, bytesW_below _ _ _⟩))
  have HI := Hid.mk (fun W (h : Below w.heap.size w W) => itoaD n W h0 h1 (hT.kept h))
  have HN := Hid.mk (fun W => need_ok p W)
  have hq : ∀ W, (binOp .eql 105 .nilIface .nilIface).run Tryz.prog W = .ok (.bool true) W := fun _ => by rfl
  clear hT h0 h1
  generalize bA (Lib.itoa n) = X at *
  have e0 := bb_eq X
  go_enter Tryz.func173, Tryz.ntmps173
  go_wp2_with fail
  refine HA.out.mono ?_
  rintro e w1 ⟨rfl, hb1⟩
  have HB1 := Hid.mk hb1
  clear hb1
  go_wp2_with fail
  refine (HI.out _ HB1.out).mono ?_
  rintro e w2 ⟨rfl, hb2⟩
  have HB2 := Hid.mk (bl2 HB1.out hb2)
  clear hb2
  go_wp2_with fail
  refine (HN.out _).mono ?_
  rintro e w3 ⟨rfl, rfl⟩
  go_wp2_with fail
  go_ret
  exact ⟨rfl, HB2.out⟩
theorem cutD (a b : List UInt8) (c : UInt8) (w : World) (hT : TxT w) (h : c ∉ a) (hs : (a ++ c :: b).length ≤ 100000) :
    Calls Tryz.prog 112 #[.string (bA (a ++ c :: b)), .string ⟨#[c]⟩] w fun e w' => e = .returned (.tuple #[.string (bA a), .string (bA b), .bool true]) ∧ Below w.heap.size w w' := by
  obtain ⟨m, hm⟩ := hT.mx
  refine (Tryz.strings_Cut (bA (a ++ c :: b)) ⟨#[c]⟩ m w (by rw [bA_size]; omega) hm).mono ?_
  rintro e w' ⟨rfl, n, rfl⟩
  rw [bA_list, show ((⟨#[c]⟩ : ByteArray).data.toList) = [c] from rfl, cut_at h]
  exact ⟨rfl, ⟨rfl, rfl, rfl, Nat.le_refl _, fun _ _ => rfl⟩⟩
set_option maxHeartbeats 2000000 in
set_option maxRecDepth 100000 in
theorem pair_ok (p : Value) (x y : Int) (c : UInt8) (w : World) (hx0 : -10000000000 < x) (hx1 : x < 10000000000) (hy0 : -10000000000 < y) (hy1 : y < 10000000000) (hc : c ∉ Lib.itoa x) (hT : TxT w) :
    Calls Tryz.prog 175 #[p, .string (bA (Lib.itoa x ++ [c] ++ Lib.itoa y)), .string ⟨#[c]⟩] w fun e w' => e = .returned (.tuple #[.int .i64 x, .int .i64 y]) ∧ Below w.heap.size w w' := by
  have hl : Lib.itoa x ++ [c] ++ Lib.itoa y = Lib.itoa x ++ c :: Lib.itoa y := by simp
  rw [hl]
  have HC := Hid.mk (cutD (Lib.itoa x) (Lib.itoa y) c w hT hc (by have h1 := itoa_len hx0 hx1; have h2 := itoa_len hy0 hy1; simp; omega))
  have HX := Hid.mk (fun W (h : Below w.heap.size w W) => number_ok p x W hx0 hx1 (hT.kept h))
  have HY := Hid.mk (fun W (h : Below w.heap.size w W) => number_ok p y W hy0 hy1 (hT.kept h))
  clear hT hx0 hx1 hy0 hy1 hl hc
  generalize bA (Lib.itoa x ++ c :: Lib.itoa y) = Z at *
  generalize bA (Lib.itoa x) = X at *
  generalize bA (Lib.itoa y) = Y at *
  go_enter Tryz.func175, Tryz.ntmps175
  go_wp2_with fail
  refine HC.out.mono ?_
  rintro e w1 ⟨rfl, hb1⟩
  have HB1 := Hid.mk hb1
  clear hb1
  go_wp2_with fail
  refine (HX.out _ HB1.out).mono ?_
  rintro e w2 ⟨rfl, hb2⟩
  have HB2 := Hid.mk (bl2 HB1.out hb2)
  clear hb2
  go_wp2_with fail
  refine (HY.out _ HB2.out).mono ?_
  rintro e w3 ⟨rfl, hb3⟩
  have HB3 := Hid.mk (bl2 HB2.out hb3)
  clear hb3
  go_wp2_with fail
  go_ret2
  exact ⟨rfl, HB3.out⟩
theorem sufY (x : List UInt8) (c : UInt8) (w : World) (hs : x.length ≤ 100000) :
    Calls Tryz.prog 172 #[.string (bA (x ++ [c])), .string ⟨#[c]⟩] w fun e w' => e = .returned (.tuple #[.string (bA x), .bool true]) ∧ w' = w := by
  refine (Tryz.strings_CutSuffix (bA (x ++ [c])) ⟨#[c]⟩ w (by rw [bA_size]; simp; omega)).mono ?_
  rintro e w' ⟨rfl, rfl⟩
  rw [bA_list, show ((⟨#[c]⟩ : ByteArray).data.toList) = [c] from rfl, (suf_yes x c).1, (suf_yes x c).2]
  exact ⟨rfl, rfl⟩
theorem sufN (x : List UInt8) (c d : UInt8) (w : World) (h : ¬ d = c) (hs : x.length ≤ 100000) :
    Calls Tryz.prog 172 #[.string (bA (x ++ [c])), .string ⟨#[d]⟩] w fun e w' => e = .returned (.tuple #[.string (bA (x ++ [c])), .bool false]) ∧ w' = w := by
  refine (Tryz.strings_CutSuffix (bA (x ++ [c])) ⟨#[d]⟩ w (by rw [bA_size]; simp; omega)).mono ?_
  rintro e w' ⟨rfl, rfl⟩
  rw [bA_list, show ((⟨#[d]⟩ : ByteArray).data.toList) = [d] from rfl]
  have h1 := suf_no (x := x) h
  unfold Lib.trimSuffix
  rw [h1, if_neg (by simp)]
  exact ⟨rfl, rfl⟩
set_option maxHeartbeats 2000000 in
set_option maxRecDepth 100000 in
theorem mark_ok (p : Value) (x : List UInt8) (b : Bool) (cn cy : UInt8) (w : World) (hne : ¬ cy = cn) (hs : x.length ≤ 100000) :
    Calls Tryz.prog 174 #[p, .string (bA (x ++ (if b = true then [cy] else [cn]))), .string ⟨#[cn]⟩, .string ⟨#[cy]⟩] w fun e w' => e = .returned (.tuple #[.string (bA x), .bool b]) ∧ Below w.heap.size w w' := by
  have HN := Hid.mk (fun W => need_ok p W)
  cases b with
  | true =>
    rw [if_pos rfl]
    have HY := Hid.mk (sufY x cy w hs)
    generalize bA (x ++ [cy]) = Z at *
    generalize bA x = X at *
    clear hne
    go_enter Tryz.func174, Tryz.ntmps174
    go_wp2_with fail
    refine HY.out.mono ?_
    rintro e w1 ⟨rfl, rfl⟩
    go_wp2_with fail
    go_ret2
    exact ⟨rfl, Below.refl _ _⟩
  | false =>
    rw [if_neg (by simp)]
    have HY := Hid.mk (sufN x cn cy w hne hs)
    have HY2 := Hid.mk (sufY x cn w hs)
    generalize bA (x ++ [cn]) = Z at *
    generalize bA x = X at *
    clear hne
    go_enter Tryz.func174, Tryz.ntmps174
    go_wp2_with fail
    refine HY.out.mono ?_
    rintro e w1 ⟨rfl, rfl⟩
    go_wp2_with fail
    refine HY2.out.mono ?_
    rintro e w2 ⟨rfl, rfl⟩
    go_wp2_with fail
    refine (HN.out _).mono ?_
    rintro e w3 ⟨rfl, rfl⟩
    go_wp2_with fail
    go_ret2
    exact ⟨rfl, Below.refl _ _⟩
theorem str_lit {a : ByteArray} {l : List UInt8} (h : ¬ a = ⟨l.toArray⟩) : (a.toList == l) = false := by
  rw [beq_eq_false_iff_ne]
  intro e
  rw [ByteArray.toList_eq] at e
  exact h (by rw [← e])
theorem itoa_not_dash {n : Int} (h : 0 ≤ n) : ¬ bA (Lib.itoa n) = (⟨#[45]⟩ : ByteArray) := fun e => by
  have h1 : Lib.itoa n = [45] := bA_inj (show bA (Lib.itoa n) = bA [45] from e)
  unfold Lib.itoa at h1
  rw [if_neg (by omega)] at h1
  have := dig_mem _ _ (lt_pow n.toNat) 45 (by rw [h1]; simp)
  exact absurd this.1 (by decide)
set_option maxHeartbeats 2000000 in
set_option maxRecDepth 100000 in
theorem key_ok (p : Value) (s : Sig) (w : World) (h : SB s) (hT : TxT w) :
    Calls Tryz.prog 176 #[p, .string (bA (kyT s))] w fun e w' => e = .returned (.int .i64 s.ky) ∧ Below w.heap.size w w' := by
  have HN := Hid.mk (fun W => need_ok p W)
  have hk0 := h.ky0
  have hk1 := h.ky1
  by_cases hk : 0 ≤ s.ky
  · have e1 : kyT s = Lib.itoa s.ky := by unfold kyT; rw [if_pos hk]
    rw [e1]
    have HX := Hid.mk (fun W (h : Below w.heap.size w W) => number_ok p s.ky W (by omega) (by omega) (hT.kept h))
    have e0 : ((bA (Lib.itoa s.ky)).toList == [45]) = false := str_lit (itoa_not_dash hk)
    generalize bA (Lib.itoa s.ky) = X at *
    generalize s.ky = ky at *
    clear hT h e1 hk0 hk1
    go_enter Tryz.func176, Tryz.ntmps176
    go_wp2_with fail
    refine (HX.out _ (Below.refl _ _)).mono ?_
    rintro e w1 ⟨rfl, hb1⟩
    have HB1 := Hid.mk hb1
    clear hb1
    go_wp2_with fail
    refine (HN.out _).mono ?_
    rintro e w2 ⟨rfl, rfl⟩
    go_wp2_with fail
    go_ret
    exact ⟨rfl, HB1.out⟩
  · have e1 : s.ky = -1 := by omega
    have e2 : kyT s = [45] := by unfold kyT; rw [if_neg hk]
    rw [e1, e2]
    clear hT h e1 hk0 hk1 hk e2
    show Calls Tryz.prog _ #[p, .string ⟨#[45]⟩] w _
    go_enter Tryz.func176, Tryz.ntmps176
    go_wp2_with fail
    go_ret
    exact ⟨rfl, Below.refl _ _⟩
end Bw
end Go.Proofs.YtlnkhlifkooohaaGreatDoor
namespace Go.Proofs.YtlnkhlifkooohaaGreatDoor
open Go.ChangeShapes Go.WideShapes Go.ChangeAt Go.RowKit
namespace Bw
theorem ce6 {T : TypeId} {w : World} {g : Nat} {c0 c1 c2 c3 c4 c5 : Value} (h : w.heap[g]? = some (.cells #[c0, c1, c2, c3, c4, c5] T (0, 0))) : (w.cell? ⟨g, 0, none⟩ = some c0 ∧ w.cell? ⟨g, 1, none⟩ = some c1 ∧ w.cell? ⟨g, 2, none⟩ = some c2 ∧ w.cell? ⟨g, 3, none⟩ = some c3 ∧ w.cell? ⟨g, 4, none⟩ = some c4 ∧ w.cell? ⟨g, 5, none⟩ = some c5) ∧ (w.frozen? ⟨g, 0, none⟩ = false ∧ w.frozen? ⟨g, 1, none⟩ = false ∧ w.frozen? ⟨g, 2, none⟩ = false ∧ w.frozen? ⟨g, 3, none⟩ = false ∧ w.frozen? ⟨g, 4, none⟩ = false ∧ w.frozen? ⟨g, 5, none⟩ = false) :=
  ⟨⟨cell_of_row _ _ 0 _ _ _ h, cell_of_row _ _ 1 _ _ _ h, cell_of_row _ _ 2 _ _ _ h, cell_of_row _ _ 3 _ _ _ h, cell_of_row _ _ 4 _ _ _ h, cell_of_row _ _ 5 _ _ _ h⟩, ⟨frozen_of_row _ _ 0 _ _ h, frozen_of_row _ _ 1 _ _ h, frozen_of_row _ _ 2 _ _ h, frozen_of_row _ _ 3 _ _ h, frozen_of_row _ _ 4 _ _ h, frozen_of_row _ _ 5 _ _ h⟩⟩
set_option maxHeartbeats 4000000 in
theorem st6 {T : TypeId} {w : World} {g : Nat} {c0 c1 c2 c3 c4 c5 : Value} (h : w.heap[g]? = some (.cells #[c0, c1, c2, c3, c4, c5] T (0, 0))) (d0 d1 d2 d3 d4 d5 : Value) :
    ((w.setCell ⟨g, 0, none⟩ d0).cell? ⟨g, 1, none⟩ = some c1 ∧ (w.setCell ⟨g, 0, none⟩ d0).frozen? ⟨g, 1, none⟩ = false) ∧ (((w.setCell ⟨g, 0, none⟩ d0).setCell ⟨g, 1, none⟩ d1).cell? ⟨g, 2, none⟩ = some c2 ∧ ((w.setCell ⟨g, 0, none⟩ d0).setCell ⟨g, 1, none⟩ d1).frozen? ⟨g, 2, none⟩ = false) ∧ ((((w.setCell ⟨g, 0, none⟩ d0).setCell ⟨g, 1, none⟩ d1).setCell ⟨g, 2, none⟩ d2).cell? ⟨g, 3, none⟩ = some c3 ∧ (((w.setCell ⟨g, 0, none⟩ d0).setCell ⟨g, 1, none⟩ d1).setCell ⟨g, 2, none⟩ d2).frozen? ⟨g, 3, none⟩ = false) ∧ (((((w.setCell ⟨g, 0, none⟩ d0).setCell ⟨g, 1, none⟩ d1).setCell ⟨g, 2, none⟩ d2).setCell ⟨g, 3, none⟩ d3).cell? ⟨g, 4, none⟩ = some c4 ∧ ((((w.setCell ⟨g, 0, none⟩ d0).setCell ⟨g, 1, none⟩ d1).setCell ⟨g, 2, none⟩ d2).setCell ⟨g, 3, none⟩ d3).frozen? ⟨g, 4, none⟩ = false) ∧ ((((((w.setCell ⟨g, 0, none⟩ d0).setCell ⟨g, 1, none⟩ d1).setCell ⟨g, 2, none⟩ d2).setCell ⟨g, 3, none⟩ d3).setCell ⟨g, 4, none⟩ d4).cell? ⟨g, 5, none⟩ = some c5 ∧ (((((w.setCell ⟨g, 0, none⟩ d0).setCell ⟨g, 1, none⟩ d1).setCell ⟨g, 2, none⟩ d2).setCell ⟨g, 3, none⟩ d3).setCell ⟨g, 4, none⟩ d4).frozen? ⟨g, 5, none⟩ = false) ∧ ((((((w.setCell ⟨g, 0, none⟩ d0).setCell ⟨g, 1, none⟩ d1).setCell ⟨g, 2, none⟩ d2).setCell ⟨g, 3, none⟩ d3).setCell ⟨g, 4, none⟩ d4).setCell ⟨g, 5, none⟩ d5).heap[g]? = some (.cells #[d0, d1, d2, d3, d4, d5] T (0, 0)) := by
  have e1 : (w.setCell ⟨g, 0, none⟩ d0).heap[g]? = some (.cells #[d0, c1, c2, c3, c4, c5] T (0, 0)) := heap_setCell_same _ g 0 _ _ d0 h
  have e2 : ((w.setCell ⟨g, 0, none⟩ d0).setCell ⟨g, 1, none⟩ d1).heap[g]? = some (.cells #[d0, d1, c2, c3, c4, c5] T (0, 0)) := heap_setCell_same _ g 1 _ _ d1 e1
  have e3 : (((w.setCell ⟨g, 0, none⟩ d0).setCell ⟨g, 1, none⟩ d1).setCell ⟨g, 2, none⟩ d2).heap[g]? = some (.cells #[d0, d1, d2, c3, c4, c5] T (0, 0)) := heap_setCell_same _ g 2 _ _ d2 e2
  have e4 : ((((w.setCell ⟨g, 0, none⟩ d0).setCell ⟨g, 1, none⟩ d1).setCell ⟨g, 2, none⟩ d2).setCell ⟨g, 3, none⟩ d3).heap[g]? = some (.cells #[d0, d1, d2, d3, c4, c5] T (0, 0)) := heap_setCell_same _ g 3 _ _ d3 e3
  have e5 : (((((w.setCell ⟨g, 0, none⟩ d0).setCell ⟨g, 1, none⟩ d1).setCell ⟨g, 2, none⟩ d2).setCell ⟨g, 3, none⟩ d3).setCell ⟨g, 4, none⟩ d4).heap[g]? = some (.cells #[d0, d1, d2, d3, d4, c5] T (0, 0)) := heap_setCell_same _ g 4 _ _ d4 e4
  have e6 : ((((((w.setCell ⟨g, 0, none⟩ d0).setCell ⟨g, 1, none⟩ d1).setCell ⟨g, 2, none⟩ d2).setCell ⟨g, 3, none⟩ d3).setCell ⟨g, 4, none⟩ d4).setCell ⟨g, 5, none⟩ d5).heap[g]? = some (.cells #[d0, d1, d2, d3, d4, d5] T (0, 0)) := heap_setCell_same _ g 5 _ _ d5 e5
  exact ⟨⟨cell_of_row _ _ 1 _ _ _ e1, frozen_of_row _ _ 1 _ _ e1⟩, ⟨cell_of_row _ _ 2 _ _ _ e2, frozen_of_row _ _ 2 _ _ e2⟩, ⟨cell_of_row _ _ 3 _ _ _ e3, frozen_of_row _ _ 3 _ _ e3⟩, ⟨cell_of_row _ _ 4 _ _ _ e4, frozen_of_row _ _ 4 _ _ e4⟩, ⟨cell_of_row _ _ 5 _ _ _ e5, frozen_of_row _ _ 5 _ _ e5⟩, e6⟩
theorem sb6 {B : Nat} {a w : World} (h : Below B a w) {g : Nat} (hg : B ≤ g) (d0 d1 d2 d3 d4 d5 : Value) : Below B a ((((((w.setCell ⟨g, 0, none⟩ d0).setCell ⟨g, 1, none⟩ d1).setCell ⟨g, 2, none⟩ d2).setCell ⟨g, 3, none⟩ d3).setCell ⟨g, 4, none⟩ d4).setCell ⟨g, 5, none⟩ d5) := ((((((h.setCell (p := ⟨g, 0, none⟩) hg d0).setCell (p := ⟨g, 1, none⟩) hg d1).setCell (p := ⟨g, 2, none⟩) hg d2).setCell (p := ⟨g, 3, none⟩) hg d3).setCell (p := ⟨g, 4, none⟩) hg d4).setCell (p := ⟨g, 5, none⟩) hg d5)
theorem so6 {w : World} {g j : Nat} (hj : j ≠ g) (d0 d1 d2 d3 d4 d5 : Value) : ((((((w.setCell ⟨g, 0, none⟩ d0).setCell ⟨g, 1, none⟩ d1).setCell ⟨g, 2, none⟩ d2).setCell ⟨g, 3, none⟩ d3).setCell ⟨g, 4, none⟩ d4).setCell ⟨g, 5, none⟩ d5).heap[j]? = w.heap[j]? := by
  rw [heap_setCell_other _ ⟨g, 5, none⟩ j _ hj, heap_setCell_other _ ⟨g, 4, none⟩ j _ hj, heap_setCell_other _ ⟨g, 3, none⟩ j _ hj, heap_setCell_other _ ⟨g, 2, none⟩ j _ hj, heap_setCell_other _ ⟨g, 1, none⟩ j _ hj, heap_setCell_other _ ⟨g, 0, none⟩ j _ hj]
theorem ce7 {T : TypeId} {w : World} {g : Nat} {c0 c1 c2 c3 c4 c5 c6 : Value} (h : w.heap[g]? = some (.cells #[c0, c1, c2, c3, c4, c5, c6] T (0, 0))) : (w.cell? ⟨g, 0, none⟩ = some c0 ∧ w.cell? ⟨g, 1, none⟩ = some c1 ∧ w.cell? ⟨g, 2, none⟩ = some c2 ∧ w.cell? ⟨g, 3, none⟩ = some c3 ∧ w.cell? ⟨g, 4, none⟩ = some c4 ∧ w.cell? ⟨g, 5, none⟩ = some c5 ∧ w.cell? ⟨g, 6, none⟩ = some c6) ∧ (w.frozen? ⟨g, 0, none⟩ = false ∧ w.frozen? ⟨g, 1, none⟩ = false ∧ w.frozen? ⟨g, 2, none⟩ = false ∧ w.frozen? ⟨g, 3, none⟩ = false ∧ w.frozen? ⟨g, 4, none⟩ = false ∧ w.frozen? ⟨g, 5, none⟩ = false ∧ w.frozen? ⟨g, 6, none⟩ = false) :=
  ⟨⟨cell_of_row _ _ 0 _ _ _ h, cell_of_row _ _ 1 _ _ _ h, cell_of_row _ _ 2 _ _ _ h, cell_of_row _ _ 3 _ _ _ h, cell_of_row _ _ 4 _ _ _ h, cell_of_row _ _ 5 _ _ _ h, cell_of_row _ _ 6 _ _ _ h⟩, ⟨frozen_of_row _ _ 0 _ _ h, frozen_of_row _ _ 1 _ _ h, frozen_of_row _ _ 2 _ _ h, frozen_of_row _ _ 3 _ _ h, frozen_of_row _ _ 4 _ _ h, frozen_of_row _ _ 5 _ _ h, frozen_of_row _ _ 6 _ _ h⟩⟩
set_option maxHeartbeats 4000000 in
theorem st7 {T : TypeId} {w : World} {g : Nat} {c0 c1 c2 c3 c4 c5 c6 : Value} (h : w.heap[g]? = some (.cells #[c0, c1, c2, c3, c4, c5, c6] T (0, 0))) (d0 d1 d2 d3 d4 d5 d6 : Value) :
    ((w.setCell ⟨g, 0, none⟩ d0).cell? ⟨g, 1, none⟩ = some c1 ∧ (w.setCell ⟨g, 0, none⟩ d0).frozen? ⟨g, 1, none⟩ = false) ∧ (((w.setCell ⟨g, 0, none⟩ d0).setCell ⟨g, 1, none⟩ d1).cell? ⟨g, 2, none⟩ = some c2 ∧ ((w.setCell ⟨g, 0, none⟩ d0).setCell ⟨g, 1, none⟩ d1).frozen? ⟨g, 2, none⟩ = false) ∧ ((((w.setCell ⟨g, 0, none⟩ d0).setCell ⟨g, 1, none⟩ d1).setCell ⟨g, 2, none⟩ d2).cell? ⟨g, 3, none⟩ = some c3 ∧ (((w.setCell ⟨g, 0, none⟩ d0).setCell ⟨g, 1, none⟩ d1).setCell ⟨g, 2, none⟩ d2).frozen? ⟨g, 3, none⟩ = false) ∧ (((((w.setCell ⟨g, 0, none⟩ d0).setCell ⟨g, 1, none⟩ d1).setCell ⟨g, 2, none⟩ d2).setCell ⟨g, 3, none⟩ d3).cell? ⟨g, 4, none⟩ = some c4 ∧ ((((w.setCell ⟨g, 0, none⟩ d0).setCell ⟨g, 1, none⟩ d1).setCell ⟨g, 2, none⟩ d2).setCell ⟨g, 3, none⟩ d3).frozen? ⟨g, 4, none⟩ = false) ∧ ((((((w.setCell ⟨g, 0, none⟩ d0).setCell ⟨g, 1, none⟩ d1).setCell ⟨g, 2, none⟩ d2).setCell ⟨g, 3, none⟩ d3).setCell ⟨g, 4, none⟩ d4).cell? ⟨g, 5, none⟩ = some c5 ∧ (((((w.setCell ⟨g, 0, none⟩ d0).setCell ⟨g, 1, none⟩ d1).setCell ⟨g, 2, none⟩ d2).setCell ⟨g, 3, none⟩ d3).setCell ⟨g, 4, none⟩ d4).frozen? ⟨g, 5, none⟩ = false) ∧ (((((((w.setCell ⟨g, 0, none⟩ d0).setCell ⟨g, 1, none⟩ d1).setCell ⟨g, 2, none⟩ d2).setCell ⟨g, 3, none⟩ d3).setCell ⟨g, 4, none⟩ d4).setCell ⟨g, 5, none⟩ d5).cell? ⟨g, 6, none⟩ = some c6 ∧ ((((((w.setCell ⟨g, 0, none⟩ d0).setCell ⟨g, 1, none⟩ d1).setCell ⟨g, 2, none⟩ d2).setCell ⟨g, 3, none⟩ d3).setCell ⟨g, 4, none⟩ d4).setCell ⟨g, 5, none⟩ d5).frozen? ⟨g, 6, none⟩ = false) ∧ (((((((w.setCell ⟨g, 0, none⟩ d0).setCell ⟨g, 1, none⟩ d1).setCell ⟨g, 2, none⟩ d2).setCell ⟨g, 3, none⟩ d3).setCell ⟨g, 4, none⟩ d4).setCell ⟨g, 5, none⟩ d5).setCell ⟨g, 6, none⟩ d6).heap[g]? = some (.cells #[d0, d1, d2, d3, d4, d5, d6] T (0, 0)) := by
  have e1 : (w.setCell ⟨g, 0, none⟩ d0).heap[g]? = some (.cells #[d0, c1, c2, c3, c4, c5, c6] T (0, 0)) := heap_setCell_same _ g 0 _ _ d0 h
  have e2 : ((w.setCell ⟨g, 0, none⟩ d0).setCell ⟨g, 1, none⟩ d1).heap[g]? = some (.cells #[d0, d1, c2, c3, c4, c5, c6] T (0, 0)) := heap_setCell_same _ g 1 _ _ d1 e1
  have e3 : (((w.setCell ⟨g, 0, none⟩ d0).setCell ⟨g, 1, none⟩ d1).setCell ⟨g, 2, none⟩ d2).heap[g]? = some (.cells #[d0, d1, d2, c3, c4, c5, c6] T (0, 0)) := heap_setCell_same _ g 2 _ _ d2 e2
  have e4 : ((((w.setCell ⟨g, 0, none⟩ d0).setCell ⟨g, 1, none⟩ d1).setCell ⟨g, 2, none⟩ d2).setCell ⟨g, 3, none⟩ d3).heap[g]? = some (.cells #[d0, d1, d2, d3, c4, c5, c6] T (0, 0)) := heap_setCell_same _ g 3 _ _ d3 e3
  have e5 : (((((w.setCell ⟨g, 0, none⟩ d0).setCell ⟨g, 1, none⟩ d1).setCell ⟨g, 2, none⟩ d2).setCell ⟨g, 3, none⟩ d3).setCell ⟨g, 4, none⟩ d4).heap[g]? = some (.cells #[d0, d1, d2, d3, d4, c5, c6] T (0, 0)) := heap_setCell_same _ g 4 _ _ d4 e4
  have e6 : ((((((w.setCell ⟨g, 0, none⟩ d0).setCell ⟨g, 1, none⟩ d1).setCell ⟨g, 2, none⟩ d2).setCell ⟨g, 3, none⟩ d3).setCell ⟨g, 4, none⟩ d4).setCell ⟨g, 5, none⟩ d5).heap[g]? = some (.cells #[d0, d1, d2, d3, d4, d5, c6] T (0, 0)) := heap_setCell_same _ g 5 _ _ d5 e5
  have e7 : (((((((w.setCell ⟨g, 0, none⟩ d0).setCell ⟨g, 1, none⟩ d1).setCell ⟨g, 2, none⟩ d2).setCell ⟨g, 3, none⟩ d3).setCell ⟨g, 4, none⟩ d4).setCell ⟨g, 5, none⟩ d5).setCell ⟨g, 6, none⟩ d6).heap[g]? = some (.cells #[d0, d1, d2, d3, d4, d5, d6] T (0, 0)) := heap_setCell_same _ g 6 _ _ d6 e6
  exact ⟨⟨cell_of_row _ _ 1 _ _ _ e1, frozen_of_row _ _ 1 _ _ e1⟩, ⟨cell_of_row _ _ 2 _ _ _ e2, frozen_of_row _ _ 2 _ _ e2⟩, ⟨cell_of_row _ _ 3 _ _ _ e3, frozen_of_row _ _ 3 _ _ e3⟩, ⟨cell_of_row _ _ 4 _ _ _ e4, frozen_of_row _ _ 4 _ _ e4⟩, ⟨cell_of_row _ _ 5 _ _ _ e5, frozen_of_row _ _ 5 _ _ e5⟩, ⟨cell_of_row _ _ 6 _ _ _ e6, frozen_of_row _ _ 6 _ _ e6⟩, e7⟩
theorem sb7 {B : Nat} {a w : World} (h : Below B a w) {g : Nat} (hg : B ≤ g) (d0 d1 d2 d3 d4 d5 d6 : Value) : Below B a (((((((w.setCell ⟨g, 0, none⟩ d0).setCell ⟨g, 1, none⟩ d1).setCell ⟨g, 2, none⟩ d2).setCell ⟨g, 3, none⟩ d3).setCell ⟨g, 4, none⟩ d4).setCell ⟨g, 5, none⟩ d5).setCell ⟨g, 6, none⟩ d6) := (((((((h.setCell (p := ⟨g, 0, none⟩) hg d0).setCell (p := ⟨g, 1, none⟩) hg d1).setCell (p := ⟨g, 2, none⟩) hg d2).setCell (p := ⟨g, 3, none⟩) hg d3).setCell (p := ⟨g, 4, none⟩) hg d4).setCell (p := ⟨g, 5, none⟩) hg d5).setCell (p := ⟨g, 6, none⟩) hg d6)
theorem so7 {w : World} {g j : Nat} (hj : j ≠ g) (d0 d1 d2 d3 d4 d5 d6 : Value) : (((((((w.setCell ⟨g, 0, none⟩ d0).setCell ⟨g, 1, none⟩ d1).setCell ⟨g, 2, none⟩ d2).setCell ⟨g, 3, none⟩ d3).setCell ⟨g, 4, none⟩ d4).setCell ⟨g, 5, none⟩ d5).setCell ⟨g, 6, none⟩ d6).heap[j]? = w.heap[j]? := by
  rw [heap_setCell_other _ ⟨g, 6, none⟩ j _ hj, heap_setCell_other _ ⟨g, 5, none⟩ j _ hj, heap_setCell_other _ ⟨g, 4, none⟩ j _ hj, heap_setCell_other _ ⟨g, 3, none⟩ j _ hj, heap_setCell_other _ ⟨g, 2, none⟩ j _ hj, heap_setCell_other _ ⟨g, 1, none⟩ j _ hj, heap_setCell_other _ ⟨g, 0, none⟩ j _ hj]
theorem ce9 {T : TypeId} {w : World} {g : Nat} {c0 c1 c2 c3 c4 c5 c6 c7 c8 : Value} (h : w.heap[g]? = some (.cells #[c0, c1, c2, c3, c4, c5, c6, c7, c8] T (0, 0))) : (w.cell? ⟨g, 0, none⟩ = some c0 ∧ w.cell? ⟨g, 1, none⟩ = some c1 ∧ w.cell? ⟨g, 2, none⟩ = some c2 ∧ w.cell? ⟨g, 3, none⟩ = some c3 ∧ w.cell? ⟨g, 4, none⟩ = some c4 ∧ w.cell? ⟨g, 5, none⟩ = some c5 ∧ w.cell? ⟨g, 6, none⟩ = some c6 ∧ w.cell? ⟨g, 7, none⟩ = some c7 ∧ w.cell? ⟨g, 8, none⟩ = some c8) ∧ (w.frozen? ⟨g, 0, none⟩ = false ∧ w.frozen? ⟨g, 1, none⟩ = false ∧ w.frozen? ⟨g, 2, none⟩ = false ∧ w.frozen? ⟨g, 3, none⟩ = false ∧ w.frozen? ⟨g, 4, none⟩ = false ∧ w.frozen? ⟨g, 5, none⟩ = false ∧ w.frozen? ⟨g, 6, none⟩ = false ∧ w.frozen? ⟨g, 7, none⟩ = false ∧ w.frozen? ⟨g, 8, none⟩ = false) :=
  ⟨⟨cell_of_row _ _ 0 _ _ _ h, cell_of_row _ _ 1 _ _ _ h, cell_of_row _ _ 2 _ _ _ h, cell_of_row _ _ 3 _ _ _ h, cell_of_row _ _ 4 _ _ _ h, cell_of_row _ _ 5 _ _ _ h, cell_of_row _ _ 6 _ _ _ h, cell_of_row _ _ 7 _ _ _ h, cell_of_row _ _ 8 _ _ _ h⟩, ⟨frozen_of_row _ _ 0 _ _ h, frozen_of_row _ _ 1 _ _ h, frozen_of_row _ _ 2 _ _ h, frozen_of_row _ _ 3 _ _ h, frozen_of_row _ _ 4 _ _ h, frozen_of_row _ _ 5 _ _ h, frozen_of_row _ _ 6 _ _ h, frozen_of_row _ _ 7 _ _ h, frozen_of_row _ _ 8 _ _ h⟩⟩
set_option maxHeartbeats 4000000 in
theorem st9 {T : TypeId} {w : World} {g : Nat} {c0 c1 c2 c3 c4 c5 c6 c7 c8 : Value} (h : w.heap[g]? = some (.cells #[c0, c1, c2, c3, c4, c5, c6, c7, c8] T (0, 0))) (d0 d1 d2 d3 d4 d5 d6 d7 d8 : Value) :
    ((w.setCell ⟨g, 0, none⟩ d0).cell? ⟨g, 1, none⟩ = some c1 ∧ (w.setCell ⟨g, 0, none⟩ d0).frozen? ⟨g, 1, none⟩ = false) ∧ (((w.setCell ⟨g, 0, none⟩ d0).setCell ⟨g, 1, none⟩ d1).cell? ⟨g, 2, none⟩ = some c2 ∧ ((w.setCell ⟨g, 0, none⟩ d0).setCell ⟨g, 1, none⟩ d1).frozen? ⟨g, 2, none⟩ = false) ∧ ((((w.setCell ⟨g, 0, none⟩ d0).setCell ⟨g, 1, none⟩ d1).setCell ⟨g, 2, none⟩ d2).cell? ⟨g, 3, none⟩ = some c3 ∧ (((w.setCell ⟨g, 0, none⟩ d0).setCell ⟨g, 1, none⟩ d1).setCell ⟨g, 2, none⟩ d2).frozen? ⟨g, 3, none⟩ = false) ∧ (((((w.setCell ⟨g, 0, none⟩ d0).setCell ⟨g, 1, none⟩ d1).setCell ⟨g, 2, none⟩ d2).setCell ⟨g, 3, none⟩ d3).cell? ⟨g, 4, none⟩ = some c4 ∧ ((((w.setCell ⟨g, 0, none⟩ d0).setCell ⟨g, 1, none⟩ d1).setCell ⟨g, 2, none⟩ d2).setCell ⟨g, 3, none⟩ d3).frozen? ⟨g, 4, none⟩ = false) ∧ ((((((w.setCell ⟨g, 0, none⟩ d0).setCell ⟨g, 1, none⟩ d1).setCell ⟨g, 2, none⟩ d2).setCell ⟨g, 3, none⟩ d3).setCell ⟨g, 4, none⟩ d4).cell? ⟨g, 5, none⟩ = some c5 ∧ (((((w.setCell ⟨g, 0, none⟩ d0).setCell ⟨g, 1, none⟩ d1).setCell ⟨g, 2, none⟩ d2).setCell ⟨g, 3, none⟩ d3).setCell ⟨g, 4, none⟩ d4).frozen? ⟨g, 5, none⟩ = false) ∧ (((((((w.setCell ⟨g, 0, none⟩ d0).setCell ⟨g, 1, none⟩ d1).setCell ⟨g, 2, none⟩ d2).setCell ⟨g, 3, none⟩ d3).setCell ⟨g, 4, none⟩ d4).setCell ⟨g, 5, none⟩ d5).cell? ⟨g, 6, none⟩ = some c6 ∧ ((((((w.setCell ⟨g, 0, none⟩ d0).setCell ⟨g, 1, none⟩ d1).setCell ⟨g, 2, none⟩ d2).setCell ⟨g, 3, none⟩ d3).setCell ⟨g, 4, none⟩ d4).setCell ⟨g, 5, none⟩ d5).frozen? ⟨g, 6, none⟩ = false) ∧ ((((((((w.setCell ⟨g, 0, none⟩ d0).setCell ⟨g, 1, none⟩ d1).setCell ⟨g, 2, none⟩ d2).setCell ⟨g, 3, none⟩ d3).setCell ⟨g, 4, none⟩ d4).setCell ⟨g, 5, none⟩ d5).setCell ⟨g, 6, none⟩ d6).cell? ⟨g, 7, none⟩ = some c7 ∧ (((((((w.setCell ⟨g, 0, none⟩ d0).setCell ⟨g, 1, none⟩ d1).setCell ⟨g, 2, none⟩ d2).setCell ⟨g, 3, none⟩ d3).setCell ⟨g, 4, none⟩ d4).setCell ⟨g, 5, none⟩ d5).setCell ⟨g, 6, none⟩ d6).frozen? ⟨g, 7, none⟩ = false) ∧ (((((((((w.setCell ⟨g, 0, none⟩ d0).setCell ⟨g, 1, none⟩ d1).setCell ⟨g, 2, none⟩ d2).setCell ⟨g, 3, none⟩ d3).setCell ⟨g, 4, none⟩ d4).setCell ⟨g, 5, none⟩ d5).setCell ⟨g, 6, none⟩ d6).setCell ⟨g, 7, none⟩ d7).cell? ⟨g, 8, none⟩ = some c8 ∧ ((((((((w.setCell ⟨g, 0, none⟩ d0).setCell ⟨g, 1, none⟩ d1).setCell ⟨g, 2, none⟩ d2).setCell ⟨g, 3, none⟩ d3).setCell ⟨g, 4, none⟩ d4).setCell ⟨g, 5, none⟩ d5).setCell ⟨g, 6, none⟩ d6).setCell ⟨g, 7, none⟩ d7).frozen? ⟨g, 8, none⟩ = false) ∧ (((((((((w.setCell ⟨g, 0, none⟩ d0).setCell ⟨g, 1, none⟩ d1).setCell ⟨g, 2, none⟩ d2).setCell ⟨g, 3, none⟩ d3).setCell ⟨g, 4, none⟩ d4).setCell ⟨g, 5, none⟩ d5).setCell ⟨g, 6, none⟩ d6).setCell ⟨g, 7, none⟩ d7).setCell ⟨g, 8, none⟩ d8).heap[g]? = some (.cells #[d0, d1, d2, d3, d4, d5, d6, d7, d8] T (0, 0)) := by
  have e1 : (w.setCell ⟨g, 0, none⟩ d0).heap[g]? = some (.cells #[d0, c1, c2, c3, c4, c5, c6, c7, c8] T (0, 0)) := heap_setCell_same _ g 0 _ _ d0 h
  have e2 : ((w.setCell ⟨g, 0, none⟩ d0).setCell ⟨g, 1, none⟩ d1).heap[g]? = some (.cells #[d0, d1, c2, c3, c4, c5, c6, c7, c8] T (0, 0)) := heap_setCell_same _ g 1 _ _ d1 e1
  have e3 : (((w.setCell ⟨g, 0, none⟩ d0).setCell ⟨g, 1, none⟩ d1).setCell ⟨g, 2, none⟩ d2).heap[g]? = some (.cells #[d0, d1, d2, c3, c4, c5, c6, c7, c8] T (0, 0)) := heap_setCell_same _ g 2 _ _ d2 e2
  have e4 : ((((w.setCell ⟨g, 0, none⟩ d0).setCell ⟨g, 1, none⟩ d1).setCell ⟨g, 2, none⟩ d2).setCell ⟨g, 3, none⟩ d3).heap[g]? = some (.cells #[d0, d1, d2, d3, c4, c5, c6, c7, c8] T (0, 0)) := heap_setCell_same _ g 3 _ _ d3 e3
  have e5 : (((((w.setCell ⟨g, 0, none⟩ d0).setCell ⟨g, 1, none⟩ d1).setCell ⟨g, 2, none⟩ d2).setCell ⟨g, 3, none⟩ d3).setCell ⟨g, 4, none⟩ d4).heap[g]? = some (.cells #[d0, d1, d2, d3, d4, c5, c6, c7, c8] T (0, 0)) := heap_setCell_same _ g 4 _ _ d4 e4
  have e6 : ((((((w.setCell ⟨g, 0, none⟩ d0).setCell ⟨g, 1, none⟩ d1).setCell ⟨g, 2, none⟩ d2).setCell ⟨g, 3, none⟩ d3).setCell ⟨g, 4, none⟩ d4).setCell ⟨g, 5, none⟩ d5).heap[g]? = some (.cells #[d0, d1, d2, d3, d4, d5, c6, c7, c8] T (0, 0)) := heap_setCell_same _ g 5 _ _ d5 e5
  have e7 : (((((((w.setCell ⟨g, 0, none⟩ d0).setCell ⟨g, 1, none⟩ d1).setCell ⟨g, 2, none⟩ d2).setCell ⟨g, 3, none⟩ d3).setCell ⟨g, 4, none⟩ d4).setCell ⟨g, 5, none⟩ d5).setCell ⟨g, 6, none⟩ d6).heap[g]? = some (.cells #[d0, d1, d2, d3, d4, d5, d6, c7, c8] T (0, 0)) := heap_setCell_same _ g 6 _ _ d6 e6
  have e8 : ((((((((w.setCell ⟨g, 0, none⟩ d0).setCell ⟨g, 1, none⟩ d1).setCell ⟨g, 2, none⟩ d2).setCell ⟨g, 3, none⟩ d3).setCell ⟨g, 4, none⟩ d4).setCell ⟨g, 5, none⟩ d5).setCell ⟨g, 6, none⟩ d6).setCell ⟨g, 7, none⟩ d7).heap[g]? = some (.cells #[d0, d1, d2, d3, d4, d5, d6, d7, c8] T (0, 0)) := heap_setCell_same _ g 7 _ _ d7 e7
  have e9 : (((((((((w.setCell ⟨g, 0, none⟩ d0).setCell ⟨g, 1, none⟩ d1).setCell ⟨g, 2, none⟩ d2).setCell ⟨g, 3, none⟩ d3).setCell ⟨g, 4, none⟩ d4).setCell ⟨g, 5, none⟩ d5).setCell ⟨g, 6, none⟩ d6).setCell ⟨g, 7, none⟩ d7).setCell ⟨g, 8, none⟩ d8).heap[g]? = some (.cells #[d0, d1, d2, d3, d4, d5, d6, d7, d8] T (0, 0)) := heap_setCell_same _ g 8 _ _ d8 e8
  exact ⟨⟨cell_of_row _ _ 1 _ _ _ e1, frozen_of_row _ _ 1 _ _ e1⟩, ⟨cell_of_row _ _ 2 _ _ _ e2, frozen_of_row _ _ 2 _ _ e2⟩, ⟨cell_of_row _ _ 3 _ _ _ e3, frozen_of_row _ _ 3 _ _ e3⟩, ⟨cell_of_row _ _ 4 _ _ _ e4, frozen_of_row _ _ 4 _ _ e4⟩, ⟨cell_of_row _ _ 5 _ _ _ e5, frozen_of_row _ _ 5 _ _ e5⟩, ⟨cell_of_row _ _ 6 _ _ _ e6, frozen_of_row _ _ 6 _ _ e6⟩, ⟨cell_of_row _ _ 7 _ _ _ e7, frozen_of_row _ _ 7 _ _ e7⟩, ⟨cell_of_row _ _ 8 _ _ _ e8, frozen_of_row _ _ 8 _ _ e8⟩, e9⟩
theorem sb9 {B : Nat} {a w : World} (h : Below B a w) {g : Nat} (hg : B ≤ g) (d0 d1 d2 d3 d4 d5 d6 d7 d8 : Value) : Below B a (((((((((w.setCell ⟨g, 0, none⟩ d0).setCell ⟨g, 1, none⟩ d1).setCell ⟨g, 2, none⟩ d2).setCell ⟨g, 3, none⟩ d3).setCell ⟨g, 4, none⟩ d4).setCell ⟨g, 5, none⟩ d5).setCell ⟨g, 6, none⟩ d6).setCell ⟨g, 7, none⟩ d7).setCell ⟨g, 8, none⟩ d8) := (((((((((h.setCell (p := ⟨g, 0, none⟩) hg d0).setCell (p := ⟨g, 1, none⟩) hg d1).setCell (p := ⟨g, 2, none⟩) hg d2).setCell (p := ⟨g, 3, none⟩) hg d3).setCell (p := ⟨g, 4, none⟩) hg d4).setCell (p := ⟨g, 5, none⟩) hg d5).setCell (p := ⟨g, 6, none⟩) hg d6).setCell (p := ⟨g, 7, none⟩) hg d7).setCell (p := ⟨g, 8, none⟩) hg d8)
theorem so9 {w : World} {g j : Nat} (hj : j ≠ g) (d0 d1 d2 d3 d4 d5 d6 d7 d8 : Value) : (((((((((w.setCell ⟨g, 0, none⟩ d0).setCell ⟨g, 1, none⟩ d1).setCell ⟨g, 2, none⟩ d2).setCell ⟨g, 3, none⟩ d3).setCell ⟨g, 4, none⟩ d4).setCell ⟨g, 5, none⟩ d5).setCell ⟨g, 6, none⟩ d6).setCell ⟨g, 7, none⟩ d7).setCell ⟨g, 8, none⟩ d8).heap[j]? = w.heap[j]? := by
  rw [heap_setCell_other _ ⟨g, 8, none⟩ j _ hj, heap_setCell_other _ ⟨g, 7, none⟩ j _ hj, heap_setCell_other _ ⟨g, 6, none⟩ j _ hj, heap_setCell_other _ ⟨g, 5, none⟩ j _ hj, heap_setCell_other _ ⟨g, 4, none⟩ j _ hj, heap_setCell_other _ ⟨g, 3, none⟩ j _ hj, heap_setCell_other _ ⟨g, 2, none⟩ j _ hj, heap_setCell_other _ ⟨g, 1, none⟩ j _ hj, heap_setCell_other _ ⟨g, 0, none⟩ j _ hj]
end Bw
end Go.Proofs.YtlnkhlifkooohaaGreatDoor
namespace Go.Proofs.YtlnkhlifkooohaaGreatDoor
open Go.ChangeShapes Go.WideShapes Go.ChangeAt Go.RowKit Go.Sort
namespace Bw
open Sm
/-- words in a row -/
def WdAt (w : World) (g : Nat) (ws : List (List UInt8)) : Prop := ∀ (j : Nat) x, ws[j]? = some x → w.cell? ⟨g, j, none⟩ = some (.string (bA x))
theorem WdAt.kept {w w' : World} {g : Nat} {ws : List (List UInt8)} (h : WdAt w g ws) (hb : Below w.heap.size w w') : WdAt w' g ws := fun j x hx => cell_kept hb (h j x hx)
theorem sg9_i : (Tryz.prog.info? 42).map (·.size) = some 9 := by kernel_rfl
theorem rs_res (tmps : Array Value) (w : World) (g : Nat) (c0 c1 c2 c3 c4 c5 c6 c7 c8 : Value) (hp : tmps.getD 4 undef = .pointer (some ⟨g, 0, none⟩)) (h : w.heap[g]? = some (.cells #[c0, c1, c2, c3, c4, c5, c6, c7, c8] 42 (0, 0))) :
    (results Tryz.f155 tmps).run Tryz.prog w = .ok (.agg #[c0, c1, c2, c3, c4, c5, c6, c7, c8]) w := by
  have hl := run_loadVar_row (P := Tryz.prog) w g 42 42 #[c0, c1, c2, c3, c4, c5, c6, c7, c8] (0, 0) _ h Tryz.underlying42 rfl (by rw [sg9_i]; rfl)
  have hp' : tmps[4]?.getD undef = .pointer (some ⟨g, 0, none⟩) := by simpa using hp
  simp [results, hp', asAddr, hl]
set_option maxHeartbeats 16000000 in
set_option maxRecDepth 100000 in
theorem readSignal_ok (p : Value) (s : Sig) (gw : Nat) (w : World) (hB : SB s) (hT : TxT w) (hW : WdAt w gw (wordsS s)) :
    Calls Tryz.prog 155 #[p, .slice (some ⟨gw, 0, none⟩) 6 6] w fun e w' => e = .returned (sgV s) ∧ Below w.heap.size w w' := by
  have HWD : Hid (∀ W, Below w.heap.size w W → W.cell? ⟨gw, 1, none⟩ = some (.string s.nm) ∧ W.cell? ⟨gw, 2, none⟩ = some (.string (bA (plL s))) ∧ W.cell? ⟨gw, 3, none⟩ = some (.string (bA (faL s))) ∧ W.cell? ⟨gw, 4, none⟩ = some (.string (bA (Lib.itoa s.ad))) ∧ W.cell? ⟨gw, 5, none⟩ = some (.string (bA (kyT s)))) := Hid.mk (fun W hb => by
    have h := hW.kept hb
    refine ⟨?_, h 2 _ rfl, h 3 _ rfl, h 4 _ rfl, h 5 _ rfl⟩
    have h1 := h 1 _ rfl
    rw [bA_of] at h1
    exact h1)
  have HM1 := Hid.mk (fun W => mark_ok p (Lib.itoa s.st ++ [58] ++ Lib.itoa s.sz ++ bkL s) s.sg 43 45 W (by decide) (by
    have h2 := itoa_len (n := s.st) (by have := hB.st0; omega) (by have := hB.st1; omega)
    have h3 := itoa_len (n := s.sz) (by have := hB.sz0; omega) (by have := hB.sz1; omega)
    have h4 : (bkL s).length ≤ 1 := by unfold bkL; split <;> simp
    simp only [List.length_append, List.length_cons, List.length_nil]; omega))
  have HM2 := Hid.mk (fun W => mark_ok p (Lib.itoa s.st ++ [58] ++ Lib.itoa s.sz) s.bk 60 62 W (by decide) (by
    have h2 := itoa_len (n := s.st) (by have := hB.st0; omega) (by have := hB.st1; omega)
    have h3 := itoa_len (n := s.sz) (by have := hB.sz0; omega) (by have := hB.sz1; omega)
    simp only [List.length_append, List.length_cons, List.length_nil]; omega))
  have HP1 := Hid.mk (fun W (h : Below w.heap.size w W) => pair_ok p s.st s.sz 58 W (by have := hB.st0; omega) (by have := hB.st1; omega) (by have := hB.sz0; omega) (by have := hB.sz1; omega) (not_num (by decide) (by decide)) (hT.kept h))
  have HP2 := Hid.mk (fun W (h : Below w.heap.size w W) => pair_ok p s.mu s.di 47 W (by have := hB.mu0; omega) (by have := hB.mu1; omega) (by have := hB.di0; omega) (by have := hB.di1; omega) (not_num (by decide) (by decide)) (hT.kept h))
  have HAD := Hid.mk (fun W (h : Below w.heap.size w W) => number_ok p s.ad W (by have := hB.ad0; omega) (by have := hB.ad1; omega) (hT.kept h))
  have HKY := Hid.mk (fun W (h : Below w.heap.size w W) => key_ok p s W hB (hT.kept h))
  have HM1' : Hid (∀ W, Calls Tryz.prog 174 #[p, .string (bA (plL s)), .string ⟨#[43]⟩, .string ⟨#[45]⟩] W fun e w' => e = .returned (.tuple #[.string (bA (Lib.itoa s.st ++ [58] ++ Lib.itoa s.sz ++ bkL s)), .bool s.sg]) ∧ Below W.heap.size W w') := HM1
  have HM2' : Hid (∀ W, Calls Tryz.prog 174 #[p, .string (bA (Lib.itoa s.st ++ [58] ++ Lib.itoa s.sz ++ bkL s)), .string ⟨#[60]⟩, .string ⟨#[62]⟩] W fun e w' => e = .returned (.tuple #[.string (bA (Lib.itoa s.st ++ [58] ++ Lib.itoa s.sz)), .bool s.bk]) ∧ Below W.heap.size W w') := HM2
  have HP2' : Hid (∀ W, Below w.heap.size w W → Calls Tryz.prog 175 #[p, .string (bA (faL s)), .string ⟨#[47]⟩] W fun e w' => e = .returned (.tuple #[.int .i64 s.mu, .int .i64 s.di]) ∧ Below W.heap.size W w') := HP2
  clear hB hT hW HM1 HM2 HP2
  generalize bA (plL s) = XP at *
  generalize bA (Lib.itoa s.st ++ [58] ++ Lib.itoa s.sz ++ bkL s) = XQ at *
  generalize bA (Lib.itoa s.st ++ [58] ++ Lib.itoa s.sz) = XR at *
  generalize bA (faL s) = XF at *
  generalize bA (Lib.itoa s.ad) = XA at *
  generalize bA (kyT s) = XK at *
  obtain ⟨nm, st, sz, bk, sg, mu, di, ad, ky⟩ := s
  unfold sgV
  simp only at HWD HP1 HAD HKY HM1' HM2' HP2' ⊢
  have HB1 : Hid (Below w.heap.size w ((w.alloc (.cells #[.string ⟨#[]⟩, .int .i64 0, .int .i64 0, .bool false, .bool false, .int .i64 0, .int .i64 0, .int .i64 0, .int .i64 0] 42)).alloc (.cells #[.string nm, .int .i64 0, .int .i64 0, .bool false, .bool false, .int .i64 0, .int .i64 0, .int .i64 0, .int .i64 0] 42))) := Hid.mk (((Below.refl _ _).alloc (Nat.le_refl _) _).alloc (by simp) _)
  have H51 : Hid (((w.alloc (.cells #[.string ⟨#[]⟩, .int .i64 0, .int .i64 0, .bool false, .bool false, .int .i64 0, .int .i64 0, .int .i64 0, .int .i64 0] 42)).alloc (.cells #[.string nm, .int .i64 0, .int .i64 0, .bool false, .bool false, .int .i64 0, .int .i64 0, .int .i64 0, .int .i64 0] 42)).heap[w.heap.size + 1]? = some (.cells #[.string nm, .int .i64 0, .int .i64 0, .bool false, .bool false, .int .i64 0, .int .i64 0, .int .i64 0, .int .i64 0] 42 (0, 0))) := Hid.mk (by
    have h := heap_alloc_new (w.alloc (.cells #[.string ⟨#[]⟩, .int .i64 0, .int .i64 0, .bool false, .bool false, .int .i64 0, .int .i64 0, .int .i64 0, .int .i64 0] 42)) (.cells #[.string nm, .int .i64 0, .int .i64 0, .bool false, .bool false, .int .i64 0, .int .i64 0, .int .i64 0, .int .i64 0] 42)
    rw [show (w.alloc (.cells #[.string ⟨#[]⟩, .int .i64 0, .int .i64 0, .bool false, .bool false, .int .i64 0, .int .i64 0, .int .i64 0, .int .i64 0] 42)).heap.size = w.heap.size + 1 by simp] at h
    exact h)
  have H41 : Hid (((w.alloc (.cells #[.string ⟨#[]⟩, .int .i64 0, .int .i64 0, .bool false, .bool false, .int .i64 0, .int .i64 0, .int .i64 0, .int .i64 0] 42)).alloc (.cells #[.string nm, .int .i64 0, .int .i64 0, .bool false, .bool false, .int .i64 0, .int .i64 0, .int .i64 0, .int .i64 0] 42)).heap[w.heap.size]? = some (.cells #[.string ⟨#[]⟩, .int .i64 0, .int .i64 0, .bool false, .bool false, .int .i64 0, .int .i64 0, .int .i64 0, .int .i64 0] 42 (0, 0))) := Hid.mk (((awB1 (w.alloc (.cells #[.string ⟨#[]⟩, .int .i64 0, .int .i64 0, .bool false, .bool false, .int .i64 0, .int .i64 0, .int .i64 0, .int .i64 0] 42)) (.cells #[.string nm, .int .i64 0, .int .i64 0, .bool false, .bool false, .int .i64 0, .int .i64 0, .int .i64 0, .int .i64 0] 42)).block w.heap.size (by simp)).trans (heap_alloc_new w _))
  have x0 := HWD.out _ (awB1 w (.cells #[.string ⟨#[]⟩, .int .i64 0, .int .i64 0, .bool false, .bool false, .int .i64 0, .int .i64 0, .int .i64 0, .int .i64 0] 42))
  have x1 := HWD.out _ HB1.out
  go_enter Tryz.func155, Tryz.ntmps155
  go_wp2_with fail
  refine (HM1'.out _).mono ?_
  rintro e w2 ⟨rfl, hb2⟩
  have HB2 := Hid.mk (bl2 HB1.out hb2)
  have H42 := Hid.mk ((hb2.block _ (lt_of_block H41.out)).trans H41.out)
  have H52 := Hid.mk ((hb2.block _ (lt_of_block H51.out)).trans H51.out)
  clear hb2
  clear x0 x1
  have x2 := HWD.out _ HB2.out
  go_wp2_with fail
  refine (HM2'.out _).mono ?_
  rintro e w3 ⟨rfl, hb3⟩
  have HB3 := Hid.mk (bl2 HB2.out hb3)
  have H43 := Hid.mk ((hb3.block _ (lt_of_block H42.out)).trans H42.out)
  have H53 := Hid.mk ((hb3.block _ (lt_of_block H52.out)).trans H52.out)
  clear hb3
  clear x2
  have k0 := cell_of_row _ _ 4 _ _ _ H53.out
  have f0 := frozen_of_row _ _ 4 _ _ H53.out
  have q1 := heap_setCell_same _ _ 4 _ _ (.bool sg) H53.out
  have k1 := cell_of_row _ _ 3 _ _ _ q1
  have f1 := frozen_of_row _ _ 3 _ _ q1
  have q2 := heap_setCell_same _ _ 3 _ _ (.bool bk) q1
  simp only [List.getElem?_toArray, List.getElem?_cons_zero, List.getElem?_cons_succ] at k0 k1
  have H54 : Hid (((w3.setCell ⟨w.heap.size + 1, 4, none⟩ (.bool sg)).setCell ⟨w.heap.size + 1, 3, none⟩ (.bool bk)).heap[w.heap.size + 1]? = some (.cells #[.string nm, .int .i64 0, .int .i64 0, .bool bk, .bool sg, .int .i64 0, .int .i64 0, .int .i64 0, .int .i64 0] 42 (0, 0))) := Hid.mk q2
  have H44 : Hid (((w3.setCell ⟨w.heap.size + 1, 4, none⟩ (.bool sg)).setCell ⟨w.heap.size + 1, 3, none⟩ (.bool bk)).heap[w.heap.size]? = some (.cells #[.string ⟨#[]⟩, .int .i64 0, .int .i64 0, .bool false, .bool false, .int .i64 0, .int .i64 0, .int .i64 0, .int .i64 0] 42 (0, 0))) := Hid.mk (((heap_setCell_other _ ⟨w.heap.size + 1, 3, none⟩ w.heap.size _ (by simp)).trans (heap_setCell_other _ ⟨w.heap.size + 1, 4, none⟩ w.heap.size _ (by simp))).trans H43.out)
  have HB4 : Hid (Below w.heap.size w ((w3.setCell ⟨w.heap.size + 1, 4, none⟩ (.bool sg)).setCell ⟨w.heap.size + 1, 3, none⟩ (.bool bk))) := Hid.mk ((HB3.out.setCell (p := ⟨w.heap.size + 1, 4, none⟩) (Nat.le_succ _) _).setCell (p := ⟨w.heap.size + 1, 3, none⟩) (Nat.le_succ _) _)
  have x4 := HWD.out _ HB4.out
  go_wp2_with fail
  refine (HP1.out _ HB4.out).mono ?_
  rintro e w5 ⟨rfl, hb5⟩
  have HB5 := Hid.mk (bl2 HB4.out hb5)
  have H45 := Hid.mk ((hb5.block _ (lt_of_block H44.out)).trans H44.out)
  have H55 := Hid.mk ((hb5.block _ (lt_of_block H54.out)).trans H54.out)
  clear hb5
  clear x4 k0 k1 f0 f1 q1 q2
  have k0 := cell_of_row _ _ 1 _ _ _ H55.out
  have f0 := frozen_of_row _ _ 1 _ _ H55.out
  have q1 := heap_setCell_same _ _ 1 _ _ (.int .i64 st) H55.out
  have k1 := cell_of_row _ _ 2 _ _ _ q1
  have f1 := frozen_of_row _ _ 2 _ _ q1
  have q2 := heap_setCell_same _ _ 2 _ _ (.int .i64 sz) q1
  simp only [List.getElem?_toArray, List.getElem?_cons_zero, List.getElem?_cons_succ] at k0 k1
  have H56 : Hid (((w5.setCell ⟨w.heap.size + 1, 1, none⟩ (.int .i64 st)).setCell ⟨w.heap.size + 1, 2, none⟩ (.int .i64 sz)).heap[w.heap.size + 1]? = some (.cells #[.string nm, .int .i64 st, .int .i64 sz, .bool bk, .bool sg, .int .i64 0, .int .i64 0, .int .i64 0, .int .i64 0] 42 (0, 0))) := Hid.mk q2
  have H46 : Hid (((w5.setCell ⟨w.heap.size + 1, 1, none⟩ (.int .i64 st)).setCell ⟨w.heap.size + 1, 2, none⟩ (.int .i64 sz)).heap[w.heap.size]? = some (.cells #[.string ⟨#[]⟩, .int .i64 0, .int .i64 0, .bool false, .bool false, .int .i64 0, .int .i64 0, .int .i64 0, .int .i64 0] 42 (0, 0))) := Hid.mk (((heap_setCell_other _ ⟨w.heap.size + 1, 2, none⟩ w.heap.size _ (by simp)).trans (heap_setCell_other _ ⟨w.heap.size + 1, 1, none⟩ w.heap.size _ (by simp))).trans H45.out)
  have HB6 : Hid (Below w.heap.size w ((w5.setCell ⟨w.heap.size + 1, 1, none⟩ (.int .i64 st)).setCell ⟨w.heap.size + 1, 2, none⟩ (.int .i64 sz))) := Hid.mk ((HB5.out.setCell (p := ⟨w.heap.size + 1, 1, none⟩) (Nat.le_succ _) _).setCell (p := ⟨w.heap.size + 1, 2, none⟩) (Nat.le_succ _) _)
  have x6 := HWD.out _ HB6.out
  go_wp2_with fail
  refine (HP2'.out _ HB6.out).mono ?_
  rintro e w7 ⟨rfl, hb7⟩
  have HB7 := Hid.mk (bl2 HB6.out hb7)
  have H47 := Hid.mk ((hb7.block _ (lt_of_block H46.out)).trans H46.out)
  have H57 := Hid.mk ((hb7.block _ (lt_of_block H56.out)).trans H56.out)
  clear hb7
  clear x6 k0 k1 f0 f1 q1 q2
  have k0 := cell_of_row _ _ 5 _ _ _ H57.out
  have f0 := frozen_of_row _ _ 5 _ _ H57.out
  have q1 := heap_setCell_same _ _ 5 _ _ (.int .i64 mu) H57.out
  have k1 := cell_of_row _ _ 6 _ _ _ q1
  have f1 := frozen_of_row _ _ 6 _ _ q1
  have q2 := heap_setCell_same _ _ 6 _ _ (.int .i64 di) q1
  simp only [List.getElem?_toArray, List.getElem?_cons_zero, List.getElem?_cons_succ] at k0 k1
  have H58 : Hid (((w7.setCell ⟨w.heap.size + 1, 5, none⟩ (.int .i64 mu)).setCell ⟨w.heap.size + 1, 6, none⟩ (.int .i64 di)).heap[w.heap.size + 1]? = some (.cells #[.string nm, .int .i64 st, .int .i64 sz, .bool bk, .bool sg, .int .i64 mu, .int .i64 di, .int .i64 0, .int .i64 0] 42 (0, 0))) := Hid.mk q2
  have H48 : Hid (((w7.setCell ⟨w.heap.size + 1, 5, none⟩ (.int .i64 mu)).setCell ⟨w.heap.size + 1, 6, none⟩ (.int .i64 di)).heap[w.heap.size]? = some (.cells #[.string ⟨#[]⟩, .int .i64 0, .int .i64 0, .bool false, .bool false, .int .i64 0, .int .i64 0, .int .i64 0, .int .i64 0] 42 (0, 0))) := Hid.mk (((heap_setCell_other _ ⟨w.heap.size + 1, 6, none⟩ w.heap.size _ (by simp)).trans (heap_setCell_other _ ⟨w.heap.size + 1, 5, none⟩ w.heap.size _ (by simp))).trans H47.out)
  have HB8 : Hid (Below w.heap.size w ((w7.setCell ⟨w.heap.size + 1, 5, none⟩ (.int .i64 mu)).setCell ⟨w.heap.size + 1, 6, none⟩ (.int .i64 di))) := Hid.mk ((HB7.out.setCell (p := ⟨w.heap.size + 1, 5, none⟩) (Nat.le_succ _) _).setCell (p := ⟨w.heap.size + 1, 6, none⟩) (Nat.le_succ _) _)
  have x8 := HWD.out _ HB8.out
  go_wp2_with fail
  refine (HAD.out _ HB8.out).mono ?_
  rintro e w9 ⟨rfl, hb9⟩
  have HB9 := Hid.mk (bl2 HB8.out hb9)
  have H49 := Hid.mk ((hb9.block _ (lt_of_block H48.out)).trans H48.out)
  have H59 := Hid.mk ((hb9.block _ (lt_of_block H58.out)).trans H58.out)
  clear hb9
  clear x8 k0 k1 f0 f1 q1 q2
  have k0 := cell_of_row _ _ 7 _ _ _ H59.out
  have f0 := frozen_of_row _ _ 7 _ _ H59.out
  have q1 := heap_setCell_same _ _ 7 _ _ (.int .i64 ad) H59.out
  simp only [List.getElem?_toArray, List.getElem?_cons_zero, List.getElem?_cons_succ] at k0
  have H510 : Hid ((w9.setCell ⟨w.heap.size + 1, 7, none⟩ (.int .i64 ad)).heap[w.heap.size + 1]? = some (.cells #[.string nm, .int .i64 st, .int .i64 sz, .bool bk, .bool sg, .int .i64 mu, .int .i64 di, .int .i64 ad, .int .i64 0] 42 (0, 0))) := Hid.mk q1
  have H410 : Hid ((w9.setCell ⟨w.heap.size + 1, 7, none⟩ (.int .i64 ad)).heap[w.heap.size]? = some (.cells #[.string ⟨#[]⟩, .int .i64 0, .int .i64 0, .bool false, .bool false, .int .i64 0, .int .i64 0, .int .i64 0, .int .i64 0] 42 (0, 0))) := Hid.mk ((heap_setCell_other _ ⟨w.heap.size + 1, 7, none⟩ w.heap.size _ (by simp)).trans H49.out)
  have HB10 : Hid (Below w.heap.size w (w9.setCell ⟨w.heap.size + 1, 7, none⟩ (.int .i64 ad))) := Hid.mk (HB9.out.setCell (p := ⟨w.heap.size + 1, 7, none⟩) (Nat.le_succ _) _)
  have x10 := HWD.out _ HB10.out
  go_wp2_with fail
  refine (HKY.out _ HB10.out).mono ?_
  rintro e w11 ⟨rfl, hb11⟩
  have HB11 := Hid.mk (bl2 HB10.out hb11)
  have H411 := Hid.mk ((hb11.block _ (lt_of_block H410.out)).trans H410.out)
  have H511 := Hid.mk ((hb11.block _ (lt_of_block H510.out)).trans H510.out)
  clear hb11
  clear x10 k0 f0 q1
  have k0 := cell_of_row _ _ 8 _ _ _ H511.out
  have f0 := frozen_of_row _ _ 8 _ _ H511.out
  have q1 := heap_setCell_same _ _ 8 _ _ (.int .i64 ky) H511.out
  simp only [List.getElem?_toArray, List.getElem?_cons_zero, List.getElem?_cons_succ] at k0
  have H512 : Hid ((w11.setCell ⟨w.heap.size + 1, 8, none⟩ (.int .i64 ky)).heap[w.heap.size + 1]? = some (.cells #[.string nm, .int .i64 st, .int .i64 sz, .bool bk, .bool sg, .int .i64 mu, .int .i64 di, .int .i64 ad, .int .i64 ky] 42 (0, 0))) := Hid.mk q1
  have H412 : Hid ((w11.setCell ⟨w.heap.size + 1, 8, none⟩ (.int .i64 ky)).heap[w.heap.size]? = some (.cells #[.string ⟨#[]⟩, .int .i64 0, .int .i64 0, .bool false, .bool false, .int .i64 0, .int .i64 0, .int .i64 0, .int .i64 0] 42 (0, 0))) := Hid.mk ((heap_setCell_other _ ⟨w.heap.size + 1, 8, none⟩ w.heap.size _ (by simp)).trans H411.out)
  have HB12 : Hid (Below w.heap.size w (w11.setCell ⟨w.heap.size + 1, 8, none⟩ (.int .i64 ky))) := Hid.mk (HB11.out.setCell (p := ⟨w.heap.size + 1, 8, none⟩) (Nat.le_succ _) _)
  have x12 := HWD.out _ HB12.out
  obtain ⟨⟨a0, a1, a2, a3, a4, a5, a6, a7, a8⟩, -⟩ := ce9 H512.out
  obtain ⟨⟨b0, b1, b2, b3, b4, b5, b6, b7, b8⟩, e0, e1, e2, e3, e4, e5, e6, e7, e8⟩ := ce9 H412.out
  obtain ⟨⟨u1, v1⟩, ⟨u2, v2⟩, ⟨u3, v3⟩, ⟨u4, v4⟩, ⟨u5, v5⟩, ⟨u6, v6⟩, ⟨u7, v7⟩, ⟨u8, v8⟩, hfin⟩ := st9 H412.out (.string nm) (.int .i64 st) (.int .i64 sz) (.bool bk) (.bool sg) (.int .i64 mu) (.int .i64 di) (.int .i64 ad) (.int .i64 ky)
  have HFIN := Hid.mk hfin
  have HBF := Hid.mk (sb9 HB12.out (Nat.le_refl w.heap.size) (.string nm) (.int .i64 st) (.int .i64 sz) (.bool bk) (.bool sg) (.int .i64 mu) (.int .i64 di) (.int .i64 ad) (.int .i64 ky))
  clear hfin x12 q1
  go_wp2_with fail
  refine bodyPost_ret (rs_res _ _ w.heap.size _ _ _ _ _ _ _ _ _ rfl HFIN.out) rfl ?_
  exact ⟨rfl, HBF.out⟩
end Bw
end Go.Proofs.YtlnkhlifkooohaaGreatDoor
namespace Go.Proofs.YtlnkhlifkooohaaGreatDoor
open Go
namespace Oi
variable {P : Program} {ops : Array Oper} {Q : Exit → Act → World → Prop} {md : Region.Mode}
def cntF (l : Array Bool) : Nat := l.toList.count false
theorem cnt_set : ∀ (l : List Bool) (i : Nat), l[i]? = some false → (l.set i true).count false + 1 = l.count false
  | [], i, h => by simp at h
  | x :: xs, 0, h => by simp at h; subst h; simp
  | x :: xs, i + 1, h => by
    have := cnt_set xs i (by simpa using h)
    simp only [List.set_cons_succ, List.count_cons]
    omega
theorem cntF_set {l : Array Bool} {i : Nat} (h : l.getD i true = false) : cntF (l.setIfInBounds i true) + 1 = cntF l := by
  unfold cntF
  rw [Array.toList_setIfInBounds]
  refine cnt_set _ _ ?_
  rw [Array.getElem?_toList]
  rw [Array.getD_eq_getD_getElem?] at h
  cases hh : l[i]? with
  | none => rw [hh] at h; simp at h
  | some b => rw [hh] at h; simpa using h
theorem wpAny_inv (I : Array Bool → Act → World → Prop)
    (hfin : ∀ l a w, I l a w → Region.ready md ops l = [] → Q .normal a w)
    (hstep : ∀ l a w i o, I l a w → l.getD i true = false → ops[i]? = some o → (∀ e ∈ o.after, Region.binds md e = true → l.getD e.on false = true) →
      ∀ K : Act → World → Prop, Shut (∀ a' w', I (l.setIfInBounds i true) a' w' → K a' w') → if Region.wanted o (yielded ops a.tmps) = true then Oper.wp P o a w K Q else K (a.put o.dst undef) w) :
    ∀ (fuel : Nat) (l : Array Bool) (a : Act) (w : World), cntF l ≤ fuel → I l a w → wpAny P md ops Q fuel l a w
  | 0, l, a, w, hc, hI => by
    have hr : Region.ready md ops l = [] := List.eq_nil_iff_forall_not_mem.2 (fun i hi => by have := cntF_set (mem_ready.1 hi).1; omega)
    exact ⟨hr, hfin _ _ _ hI hr⟩
  | n + 1, l, a, w, hc, hI => ⟨hfin _ _ _ hI, fun i hi => by
      obtain ⟨h0, o, ho, hall⟩ := mem_ready.1 hi
      have hs := wpOp_step (Q := Q) (P := P) (K := I (l.setIfInBounds i true)) ho (fun K hK => hstep l a w i o hI h0 ho hall K hK)
      exact wpOp_mono (fun a' w' h' => wpAny_inv I hfin hstep n _ a' w' (by have := cntF_set h0; omega) h') hs⟩
theorem wpAny_start (I : Array Bool → Act → World → Prop) (l' : Array Bool) {l : Array Bool} {fuel : Nat} {a : Act} {w : World} (hl : l = l') (hc : decide (cntF l' ≤ fuel) = true) (hI : I l' a w)
    (hfin : ∀ l a w, I l a w → Region.ready md ops l = [] → Q .normal a w)
    (hstep : ∀ l a w i o, I l a w → l.getD i true = false → ops[i]? = some o → (∀ e ∈ o.after, Region.binds md e = true → l.getD e.on false = true) →
      ∀ K : Act → World → Prop, Shut (∀ a' w', I (l.setIfInBounds i true) a' w' → K a' w') → if Region.wanted o (yielded ops a.tmps) = true then Oper.wp P o a w K Q else K (a.put o.dst undef) w) : wpAny P md ops Q fuel l a w := by
  subst hl
  exact wpAny_inv I hfin hstep fuel _ a w (of_decide_eq_true hc) hI
theorem ready_nil {i : Nat} {o : Oper} {l : Array Bool} (h : Region.ready md ops l = []) (h0 : l.getD i true = false) (ho : ops[i]? = some o) (hall : ∀ e ∈ o.after, Region.binds md e = true → l.getD e.on false = true) : False := by
  have := mem_ready.2 ⟨h0, o, ho, hall⟩
  rw [h] at this
  cases this
end Oi
end Go.Proofs.YtlnkhlifkooohaaGreatDoor
namespace Go.Proofs.YtlnkhlifkooohaaGreatDoor
open Go.ChangeShapes Go.WideShapes Go.ChangeAt Go.RowKit Go.Sort
namespace Bw
open Sm
theorem bDx (w : World) : Below w.heap.size w w.drew := ⟨rfl, rfl, rfl, Nat.le_refl _, fun _ _ => rfl⟩
theorem bA1x (w : World) (o : Obj) : Below w.heap.size w (w.alloc o).drew := bl2 (awB1 w o) (bDx _)
theorem step_store_row {P : Program} (w : World) {ops : Array Oper} {o : Oper} {a : Act} {K : Act → World → Prop} {Q : Exit → Act → World → Prop} {E : Prop} (hgd : o.guard = none) (x y : Operand) (ty : TypeId) (ho : o.op = .store ty x y)
    (g : Nat) (t : TypeId) (old cells : Array Value) (hx : a.eval x = .pointer (some ⟨g, 0, none⟩)) (hy : a.eval y = .agg cells) (hg : w.heap[g]? = some (.cells old t (0, 0))) (hi : (P.info? ty).map (·.size) = some cells.size) (hs : old.size = cells.size) (h1 : cells.all (·.oneCell') = true)
    (h : ∀ w', w'.heap[g]? = some (.cells cells t (0, 0)) → w.grownBy w' (some g) → K (a.put o.dst undef) w') :
    if Region.wanted o (yielded ops a.tmps) = true then Oper.wp P o a w K Q else E := by
  have hw : Region.wanted o (yielded ops a.tmps) = true := by simp [Region.wanted, hgd]
  rw [if_pos hw]
  unfold Oper.wp execOp
  simp only [ho, hx, hy, Instr.storeAt, Instr.sureAddr, Sem.run_bind, Sem.run_pure, Result.andThen_ok, run_storeVar_row w g t ty old cells hg hi hs h1]
  exact h (w.setRow g cells) (setRow_heap w g _ _ _ _ hg) ⟨rfl, rfl, rfl, by simp, fun k _ hk => setRow_other w g k cells (fun e => hk (by rw [e]))⟩
theorem ms6_i : (Tryz.prog.info? 24).map (·.size) = some 6 := by kernel_rfl
theorem sufM (x : List UInt8) (d : UInt8) (w : World) (h : d ∉ x) (hs : x.length ≤ 100000) :
    Calls Tryz.prog 172 #[.string (bA x), .string ⟨#[d]⟩] w fun e w' => e = .returned (.tuple #[.string (bA x), .bool false]) ∧ w' = w := by
  refine (Tryz.strings_CutSuffix (bA x) ⟨#[d]⟩ w (by rw [bA_size]; omega)).mono ?_
  rintro e w' ⟨rfl, rfl⟩
  rw [bA_list, show ((⟨#[d]⟩ : ByteArray).data.toList) = [d] from rfl]
  have h1 : Lib.hasSuffix x [d] = false := by
    cases hh : Lib.hasSuffix x [d] with
    | false => rfl
    | true =>
      unfold Lib.hasSuffix at hh
      rw [List.isSuffixOf_iff_suffix] at hh
      exact absurd (hh.subset (by simp)) h
  unfold Lib.trimSuffix
  rw [h1, if_neg (by simp)]
  exact ⟨rfl, rfl⟩
theorem cutX (m : Msg) (w : World) (h : MB m) :
    Calls Tryz.prog 172 #[.string (bA (lxL m)), .string ⟨#[120]⟩] w fun e w' => e = .returned (.tuple #[.string (bA (Lib.itoa m.id)), .bool m.lo]) ∧ w' = w := by
  have hl := itoa_len (n := m.id) (by have := h.id0; omega) (by have := h.id1; omega)
  unfold lxL
  cases m.lo with
  | true => rw [if_pos rfl]; exact sufY _ _ w (by omega)
  | false =>
    rw [if_neg (by simp), List.append_nil]
    exact sufM _ _ w (not_num (by decide) (by decide)) (by omega)
theorem dr7_i : (Tryz.prog.info? 117).map (·.size) = some 7 := by kernel_rfl
theorem rm_res (tmps : Array Value) (w : World) (g : Nat) (c0 c1 c2 c3 c4 c5 c6 : Value) (hp : tmps.getD 4 undef = .pointer (some ⟨g, 0, none⟩)) (h : w.heap[g]? = some (.cells #[c0, c1, c2, c3, c4, c5, c6] 117 (0, 0))) :
    (results Tryz.f154 tmps).run Tryz.prog w = .ok (.agg #[c0, c1, c2, c3, c4, c5, c6]) w := by
  have hl := run_loadVar_row (P := Tryz.prog) w g 117 117 #[c0, c1, c2, c3, c4, c5, c6] (0, 0) _ h Tryz.underlying117 rfl (by rw [dr7_i]; rfl)
  have hp' : tmps[4]?.getD undef = .pointer (some ⟨g, 0, none⟩) := by simpa using hp
  simp [results, hp', asAddr, hl]
/-- what stands while the drawn region of readMessage runs -/
structure RmI (nm XS : ByteArray) (id size : Int) (lo : Bool) (W2 W : World) (b2 b5 b10 b11 b12 b13 b14 : Bool) (v17 v20 v25 v26 v27 v7 : Value) (g7 : Nat) : Prop where
  below : Below W2.heap.size W2 W
  l2 : b2 = true → v17 = .string nm
  c5 : b5 = true → v20 = .int .i64 id
  l10 : b10 = true → v25 = .string XS
  c11 : b11 = true → v26 = .int .i64 size
  u12 : b12 = true → v27 = .agg #[.int .i64 id, .bool lo, .string nm, .int .i64 size, .int .i64 0, .slice none 0 0]
  a13 : b13 = true → v7 = .pointer (some ⟨g7, 0, none⟩) ∧ W2.heap.size ≤ g7
  z13 : b13 = true → b14 = false → W.heap[g7]? = some (.cells #[.int .i64 0, .bool false, .string ⟨#[]⟩, .int .i64 0, .int .i64 0, .slice none 0 0] 24 (0, 0))
  m13 : b14 = true → W.heap[g7]? = some (.cells #[.int .i64 id, .bool lo, .string nm, .int .i64 size, .int .i64 0, .slice none 0 0] 24 (0, 0))
  o14 : b14 = true → b13 = true
theorem RmI.kept {nm XS : ByteArray} {id size : Int} {lo : Bool} {W2 W W' : World} {b2 b5 b10 b11 b12 b13 b14 : Bool} {v17 v20 v25 v26 v27 v7 : Value} {g7 : Nat} (h : RmI nm XS id size lo W2 W b2 b5 b10 b11 b12 b13 b14 v17 v20 v25 v26 v27 v7 g7) (hb : Below W.heap.size W W') : RmI nm XS id size lo W2 W' b2 b5 b10 b11 b12 b13 b14 v17 v20 v25 v26 v27 v7 g7 :=
  ⟨bl2 h.below hb, h.l2, h.c5, h.l10, h.c11, h.u12, h.a13, fun e e' => (hb.block _ (lt_of_block (h.z13 e e'))).trans (h.z13 e e'), fun e => (hb.block _ (lt_of_block (h.m13 e))).trans (h.m13 e), h.o14⟩
structure Rm3 (nm XC : ByteArray) (id size : Int) (lo : Bool) (gw g7 : Nat) (w W : World) (b0 b3 b4 b5 : Bool) (v28 v31 v32 : Value) : Prop where
  bw : Below w.heap.size w W
  l0 : b0 = true → v28 = .agg #[.int .i64 id, .bool lo, .string nm, .int .i64 size, .int .i64 0, .slice none 0 0]
  l3 : b3 = true → v31 = .string XC
  u4 : b4 = true → v32 = .agg #[.int .i64 id, .bool lo, .string nm, .int .i64 size, .int .i64 0, .slice none 0 0, .string XC]
  pre : b5 = false → W.heap[g7]? = some (.cells #[.int .i64 id, .bool lo, .string nm, .int .i64 size, .int .i64 0, .slice none 0 0] 24 (0, 0)) ∧ W.cell? ⟨gw, 4, none⟩ = some (.string XC) ∧ W.heap[w.heap.size]? = some (.cells #[.int .i64 0, .bool false, .string ⟨#[]⟩, .int .i64 0, .int .i64 0, .slice none 0 0, .string ⟨#[]⟩] 117 (0, 0))
  fin : b5 = true → W.heap[w.heap.size]? = some (.cells #[.int .i64 id, .bool lo, .string nm, .int .i64 size, .int .i64 0, .slice none 0 0, .string XC] 117 (0, 0))
  ord : b5 = true → b0 = true ∧ b3 = true
set_option maxHeartbeats 16000000 in
set_option maxRecDepth 100000 in
theorem readMessage_ok (p : Value) (m : Msg) (gw : Nat) (w : World) (hB : MB m) (hT : TxT w) (hW : WdAt w gw (wordsM m)) :
    Calls Tryz.prog 154 #[p, .slice (some ⟨gw, 0, none⟩) 5 5] w fun e w' => e = .returned (.agg #[.int .i64 m.id, .bool m.lo, .string m.nm, .int .i64 m.size, .int .i64 0, .slice none 0 0, .string (bA (chL m))]) ∧ Below w.heap.size w w' := by
  have HWD : Hid (∀ W, Below w.heap.size w W → W.cell? ⟨gw, 1, none⟩ = some (.string m.nm) ∧ W.cell? ⟨gw, 2, none⟩ = some (.string (bA (lxL m))) ∧ W.cell? ⟨gw, 3, none⟩ = some (.string (bA (Lib.itoa m.size))) ∧ W.cell? ⟨gw, 4, none⟩ = some (.string (bA (chL m)))) := Hid.mk (fun W hb => by
    have h := hW.kept hb
    refine ⟨?_, h 2 _ rfl, h 3 _ rfl, h 4 _ rfl⟩
    have h1 := h 1 _ rfl
    rw [bA_of] at h1
    exact h1)
  have HCX := Hid.mk (fun W => cutX m W hB)
  have HNI0 := Hid.mk (fun W (h : Below w.heap.size w W) => number_ok p m.id W (by have := hB.id0; omega) (by have := hB.id1; omega) (hT.kept h))
  have HNS0 := Hid.mk (fun W (h : Below w.heap.size w W) => number_ok p m.size W (by have := hB.sz0; omega) (by have := hB.sz1; omega) (hT.kept h))
  clear hB hT hW
  generalize bA (lxL m) = XL at *
  generalize bA (Lib.itoa m.id) = XI at *
  generalize bA (Lib.itoa m.size) = XS at *
  generalize bA (chL m) = XC at *
  obtain ⟨id, lo, nm, size, ch, sigs⟩ := m
  simp only at HWD HCX HNI0 HNS0 ⊢
  have HB1 : Hid (Below w.heap.size w (w.alloc (.cells #[.int .i64 0, .bool false, .string ⟨#[]⟩, .int .i64 0, .int .i64 0, .slice none 0 0, .string ⟨#[]⟩] 117))) := Hid.mk (awB1 w _)
  have H41 := Hid.mk (heap_alloc_new w (.cells #[.int .i64 0, .bool false, .string ⟨#[]⟩, .int .i64 0, .int .i64 0, .slice none 0 0, .string ⟨#[]⟩] 117))
  obtain ⟨x1, x2, x3, x4⟩ := HWD.out _ HB1.out
  go_enter Tryz.func154, Tryz.ntmps154
  go_wp2_with fail
  refine (HCX.out _).mono ?_
  rintro e W2 ⟨rfl, hW2⟩
  rw [← hW2] at HB1 H41
  clear hW2 x1 x2 x3 x4 HCX
  obtain ⟨x1, x2, x3, x4⟩ := HWD.out _ HB1.out
  have HNI := Hid.mk (fun W (h : Below W2.heap.size W2 W) => HNI0.out W (bl2 HB1.out h))
  have HNS := Hid.mk (fun W (h : Below W2.heap.size W2 W) => HNS0.out W (bl2 HB1.out h))
  have HEM : Hid (∀ W, Below W2.heap.size W2 W → W.cell? ⟨gw, 1, none⟩ = some (.string nm) ∧ W.cell? ⟨gw, 3, none⟩ = some (.string XS)) := Hid.mk (fun W hb => ⟨cell_kept hb x1, cell_kept hb x3⟩)
  go_wp2_with fail
  clear x1 x2 x3 x4
  refine wp_region_any (by kernel_rfl) ?_
  refine wpAny_take (i := 0) (v := .slice (some ⟨gw, 0, none⟩) 5 5) rfl (by kernel_rfl) (by kernel_rfl) (by kernel_rfl) (fun _ _ _ h => h) (Or.inl ⟨by rfl, fun _ => by rfl⟩) ?_
  simp only [List.getElem_toArray, List.getElem_cons_zero, Act.put, List.setIfInBounds_toArray, List.set_cons_zero, List.set_cons_succ]
  refine wpAny_take (i := 1) (v := .pointer (some ⟨gw, 1, none⟩)) rfl (by kernel_rfl) (by kernel_rfl) (by kernel_rfl) (fun _ _ _ h => h) (Or.inl ⟨by rfl, fun _ => by rfl⟩) ?_
  simp only [List.getElem_toArray, List.getElem_cons_zero, List.getElem_cons_succ, Act.put, List.setIfInBounds_toArray, List.set_cons_zero, List.set_cons_succ]
  refine wpAny_take (i := 3) (v := p) rfl (by kernel_rfl) (by kernel_rfl) (by kernel_rfl) (fun _ _ _ h => h) (Or.inl ⟨by rfl, fun _ => by rfl⟩) ?_
  simp only [List.getElem_toArray, List.getElem_cons_zero, List.getElem_cons_succ, Act.put, List.setIfInBounds_toArray, List.set_cons_zero, List.set_cons_succ]
  refine wpAny_take (i := 4) (v := .string XI) rfl (by kernel_rfl) (by kernel_rfl) (by kernel_rfl) (fun _ _ _ h => h) (Or.inl ⟨by rfl, fun _ => by rfl⟩) ?_
  simp only [List.getElem_toArray, List.getElem_cons_zero, List.getElem_cons_succ, Act.put, List.setIfInBounds_toArray, List.set_cons_zero, List.set_cons_succ]
  refine wpAny_take (i := 6) (v := .bool lo) rfl (by kernel_rfl) (by kernel_rfl) (by kernel_rfl) (fun _ _ _ h => h) (Or.inl ⟨by rfl, fun _ => by rfl⟩) ?_
  simp only [List.getElem_toArray, List.getElem_cons_zero, List.getElem_cons_succ, Act.put, List.setIfInBounds_toArray, List.set_cons_zero, List.set_cons_succ]
  refine wpAny_take (i := 7) (v := p) rfl (by kernel_rfl) (by kernel_rfl) (by kernel_rfl) (fun _ _ _ h => h) (Or.inl ⟨by rfl, fun _ => by rfl⟩) ?_
  simp only [List.getElem_toArray, List.getElem_cons_zero, List.getElem_cons_succ, Act.put, List.setIfInBounds_toArray, List.set_cons_zero, List.set_cons_succ]
  refine wpAny_take (i := 8) (v := .slice (some ⟨gw, 0, none⟩) 5 5) rfl (by kernel_rfl) (by kernel_rfl) (by kernel_rfl) (fun _ _ _ h => h) (Or.inl ⟨by rfl, fun _ => by rfl⟩) ?_
  simp only [List.getElem_toArray, List.getElem_cons_zero, List.getElem_cons_succ, Act.put, List.setIfInBounds_toArray, List.set_cons_zero, List.set_cons_succ]
  refine wpAny_take (i := 9) (v := .pointer (some ⟨gw, 3, none⟩)) rfl (by kernel_rfl) (by kernel_rfl) (by kernel_rfl) (fun _ _ _ h => h) (Or.inl ⟨by rfl, fun _ => by rfl⟩) ?_
  simp only [List.getElem_toArray, List.getElem_cons_zero, List.getElem_cons_succ, Act.put, List.setIfInBounds_toArray, List.set_cons_zero, List.set_cons_succ]
  refine Oi.wpAny_start (fun l a W => ∃ b2 b5 b10 b11 b12 b13 b14 v17 v20 v25 v26 v27 v7 g7, l = #[true, true, b2, true, true, b5, true, true, true, true, b10, b11, b12, b13, b14] ∧ a = ⟨#[p, .slice (some ⟨gw, 0, none⟩) 5 5, undef, undef, .pointer (some ⟨w.heap.size, 0, none⟩), .string XI, .bool lo, v7, .tuple #[.string XI, .bool lo], .slice (some ⟨gw, 0, none⟩) 5 5, .pointer (some ⟨gw, 2, none⟩), .string XL, .tuple #[.string XI, .bool lo], .string XI, .bool lo, .slice (some ⟨gw, 0, none⟩) 5 5, .pointer (some ⟨gw, 1, none⟩), v17, p, .string XI, v20, .bool lo, p, .slice (some ⟨gw, 0, none⟩) 5 5, .pointer (some ⟨gw, 3, none⟩), v25, v26, v27, undef, undef, undef, undef, undef], []⟩ ∧ RmI nm XS id size lo W2 W b2 b5 b10 b11 b12 b13 b14 v17 v20 v25 v26 v27 v7 g7) #[true, true, false, true, true, false, true, true, true, true, false, false, false, false, false] rfl (by decide) ⟨false, false, false, false, false, false, false, undef, undef, undef, undef, undef, undef, 0, rfl, rfl, ?_⟩ ?_ ?_
  · exact ⟨⟨rfl, rfl, rfl, Nat.le_refl _, fun _ _ => rfl⟩, fun e => Bool.noConfusion e, fun e => Bool.noConfusion e, fun e => Bool.noConfusion e, fun e => Bool.noConfusion e, fun e => Bool.noConfusion e, fun e => Bool.noConfusion e, fun e => Bool.noConfusion e, fun e => Bool.noConfusion e, fun e => Bool.noConfusion e⟩
  rotate_left
  · rintro l a W i o ⟨b2, b5, b10, b11, b12, b13, b14, v17, v20, v25, v26, v27, v7, g7, rfl, rfl, hI⟩ h0 ho hall K hK
    have hi : i < 15 := (Array.getElem?_eq_some_iff.1 ho).1
    have hii : i = 0 ∨ i = 1 ∨ i = 2 ∨ i = 3 ∨ i = 4 ∨ i = 5 ∨ i = 6 ∨ i = 7 ∨ i = 8 ∨ i = 9 ∨ i = 10 ∨ i = 11 ∨ i = 12 ∨ i = 13 ∨ i = 14 := by omega
    clear hi
    rcases hii with rfl | rfl | rfl | rfl | rfl | rfl | rfl | rfl | rfl | rfl | rfl | rfl | rfl | rfl | rfl
    · exact Bool.noConfusion h0
    · exact Bool.noConfusion h0
    · simp only [List.getElem?_toArray, List.getElem?_cons_zero, List.getElem?_cons_succ, Option.some.injEq] at ho
      subst ho
      have HN : Hid (RmI nm XS id size lo W2 W true b5 b10 b11 b12 b13 b14 (.string nm) v20 v25 v26 v27 v7 g7) := Hid.mk ⟨hI.below, fun _ => rfl, hI.c5, hI.l10, hI.c11, hI.u12, hI.a13, hI.z13, hI.m13, hI.o14⟩
      obtain ⟨x1, x3⟩ := HEM.out _ hI.below
      clear hall h0 hI
      go_simp
      exact hK.out _ _ ⟨_, _, _, _, _, _, _, _, _, _, _, _, _, _, rfl, rfl, HN.out⟩
    · exact Bool.noConfusion h0
    · exact Bool.noConfusion h0
    · simp only [List.getElem?_toArray, List.getElem?_cons_zero, List.getElem?_cons_succ, Option.some.injEq] at ho
      subst ho
      have HN : Hid (∀ w', Below W.heap.size W w' → RmI nm XS id size lo W2 w' b2 true b10 b11 b12 b13 b14 v17 (.int .i64 id) v25 v26 v27 v7 g7) := Hid.mk (fun w' h => ⟨(hI.kept h).below, hI.l2, fun _ => rfl, hI.l10, hI.c11, hI.u12, hI.a13, (hI.kept h).z13, (hI.kept h).m13, hI.o14⟩)
      have HC := Hid.mk (HNI.out W hI.below)
      clear hall h0 hI
      go_simp
      go_wp2_with fail
      with_reducible refine HC.out.mono ?_
      rintro e W3 ⟨rfl, hb3⟩
      have HN3 := Hid.mk (HN.out W3 hb3)
      clear hb3 HN HC
      go_wp2_with fail
      exact hK.out _ _ ⟨_, _, _, _, _, _, _, _, _, _, _, _, _, _, rfl, rfl, HN3.out⟩
    · exact Bool.noConfusion h0
    · exact Bool.noConfusion h0
    · exact Bool.noConfusion h0
    · exact Bool.noConfusion h0
    · simp only [List.getElem?_toArray, List.getElem?_cons_zero, List.getElem?_cons_succ, Option.some.injEq] at ho
      subst ho
      have HN : Hid (RmI nm XS id size lo W2 W b2 b5 true b11 b12 b13 b14 v17 v20 (.string XS) v26 v27 v7 g7) := Hid.mk ⟨hI.below, hI.l2, hI.c5, fun _ => rfl, hI.c11, hI.u12, hI.a13, hI.z13, hI.m13, hI.o14⟩
      obtain ⟨x1, x3⟩ := HEM.out _ hI.below
      clear hall h0 hI
      go_simp
      exact hK.out _ _ ⟨_, _, _, _, _, _, _, _, _, _, _, _, _, _, rfl, rfl, HN.out⟩
    · simp only [List.getElem?_toArray, List.getElem?_cons_zero, List.getElem?_cons_succ, Option.some.injEq] at ho
      subst ho
      have e10 : b10 = true := hall ⟨10, .data⟩ (by simp) rfl
      have hv := hI.l10 e10
      subst hv
      have HN : Hid (∀ w', Below W.heap.size W w' → RmI nm XS id size lo W2 w' b2 b5 b10 true b12 b13 b14 v17 v20 (.string XS) (.int .i64 size) v27 v7 g7) := Hid.mk (fun w' h => ⟨(hI.kept h).below, hI.l2, hI.c5, hI.l10, fun _ => rfl, hI.u12, hI.a13, (hI.kept h).z13, (hI.kept h).m13, hI.o14⟩)
      have HC := Hid.mk (HNS.out W hI.below)
      clear hall h0 hI
      go_simp
      go_wp2_with fail
      with_reducible refine HC.out.mono ?_
      rintro e W3 ⟨rfl, hb3⟩
      have HN3 := Hid.mk (HN.out W3 hb3)
      clear hb3 HN HC
      go_wp2_with fail
      exact hK.out _ _ ⟨_, _, _, _, _, _, _, _, _, _, _, _, _, _, rfl, rfl, HN3.out⟩
    · simp only [List.getElem?_toArray, List.getElem?_cons_zero, List.getElem?_cons_succ, Option.some.injEq] at ho
      subst ho
      have e2 : b2 = true := hall ⟨2, .data⟩ (by simp) rfl
      have e5 : b5 = true := hall ⟨5, .data⟩ (by simp) rfl
      have e11 : b11 = true := hall ⟨11, .data⟩ (by simp) rfl
      have hv1 := hI.l2 e2
      have hv2 := hI.c5 e5
      have hv3 := hI.c11 e11
      subst hv1 hv2 hv3
      have HN : Hid (RmI nm XS id size lo W2 W b2 b5 b10 b11 true b13 b14 (.string nm) (.int .i64 id) v25 (.int .i64 size) (.agg #[.int .i64 id, .bool lo, .string nm, .int .i64 size, .int .i64 0, .slice none 0 0]) v7 g7) := Hid.mk ⟨hI.below, hI.l2, hI.c5, hI.l10, hI.c11, fun _ => rfl, hI.a13, hI.z13, hI.m13, hI.o14⟩
      clear hall h0 hI e2 e5 e11
      go_simp
      exact hK.out _ _ ⟨_, _, _, _, _, _, _, _, _, _, _, _, _, _, rfl, rfl, HN.out⟩
    · simp only [List.getElem?_toArray, List.getElem?_cons_zero, List.getElem?_cons_succ, Option.some.injEq] at ho
      subst ho
      have e13 : b13 = false := h0
      have e14 : b14 = false := by cases hb : b14 with | false => rfl | true => (have := hI.o14 hb; rw [e13] at this; cases this)
      subst e14
      have HN : Hid (RmI nm XS id size lo W2 (W.alloc (.cells #[.int .i64 0, .bool false, .string ⟨#[]⟩, .int .i64 0, .int .i64 0, .slice none 0 0] 24)) b2 b5 b10 b11 b12 true false v17 v20 v25 v26 v27 (.pointer (some ⟨W.heap.size, 0, none⟩)) W.heap.size) := Hid.mk ⟨bl2 hI.below (awB1 W _), hI.l2, hI.c5, hI.l10, hI.c11, hI.u12, fun _ => ⟨rfl, hI.below.size⟩, fun _ _ => heap_alloc_new W _, fun e => Bool.noConfusion e, fun e => Bool.noConfusion e⟩
      clear hall h0 hI e13
      go_simp
      exact hK.out _ _ ⟨_, _, _, _, _, _, _, _, _, _, _, _, _, _, rfl, rfl, HN.out⟩
    · simp only [List.getElem?_toArray, List.getElem?_cons_zero, List.getElem?_cons_succ, Option.some.injEq] at ho
      subst ho
      have e12 : b12 = true := hall ⟨12, .data⟩ (by simp) rfl
      have e13 : b13 = true := hall ⟨13, .data⟩ (by simp) rfl
      have e14 : b14 = false := h0
      have hv1 := hI.u12 e12
      obtain ⟨hv2, hge⟩ := hI.a13 e13
      have hz := hI.z13 e13 e14
      subst hv1 hv2
      refine step_store_row W rfl (.tmp 7) (.tmp 27) 24 rfl g7 24 _ #[.int .i64 id, .bool lo, .string nm, .int .i64 size, .int .i64 0, .slice none 0 0] rfl rfl hz ms6_i rfl (by simp [Value.oneCell']) ?_
      intro w8 hH8 hG8
      refine hK.out _ _ ⟨_, _, _, _, _, _, _, _, _, _, _, _, _, g7, rfl, rfl, ?_⟩
      exact ⟨Below.grown hI.below hG8 hI.below.size (fun q hq => by cases hq; exact hge), hI.l2, hI.c5, hI.l10, hI.c11, fun _ => rfl, fun _ => ⟨rfl, hge⟩, fun _ e => Bool.noConfusion e, fun _ => hH8, fun _ => e13⟩
  rintro l a W ⟨b2, b5, b10, b11, b12, b13, b14, v17, v20, v25, v26, v27, v7, g7, rfl, rfl, hI⟩ hr
  cases b2 with
  | false => exact (Oi.ready_nil (i := 2) hr rfl rfl (by intro e he _; simp at he; try (first | (rcases he with rfl <;> rfl) | (subst he; rfl)))).elim
  | true =>
  cases b5 with
  | false => exact (Oi.ready_nil (i := 5) hr rfl rfl (by intro e he _; simp at he; try (first | (rcases he with rfl | rfl <;> rfl) | (subst he; rfl)))).elim
  | true =>
  cases b10 with
  | false => exact (Oi.ready_nil (i := 10) hr rfl rfl (by intro e he _; simp at he; try (first | (rcases he with rfl <;> rfl) | (subst he; rfl)))).elim
  | true =>
  cases b11 with
  | false => exact (Oi.ready_nil (i := 11) hr rfl rfl (by intro e he _; simp at he; try (first | (rcases he with rfl | rfl | rfl <;> rfl) | (subst he; rfl)))).elim
  | true =>
  cases b12 with
  | false => exact (Oi.ready_nil (i := 12) hr rfl rfl (by intro e he _; simp at he; try (first | (rcases he with rfl | rfl | rfl | rfl <;> rfl) | (subst he; rfl)))).elim
  | true =>
  cases b13 with
  | false => exact (Oi.ready_nil (i := 13) hr rfl rfl (by intro e he _; simp at he; try (first | (rcases he with rfl <;> rfl) | (subst he; rfl)))).elim
  | true =>
  cases b14 with
  | false => exact (Oi.ready_nil (i := 14) hr rfl rfl (by intro e he _; simp at he; try (first | (rcases he with rfl | rfl | rfl | rfl | rfl | rfl | rfl | rfl | rfl | rfl | rfl | rfl | rfl | rfl | rfl | rfl | rfl <;> rfl) | (subst he; rfl)))).elim
  | true =>
  have hv1 := hI.l2 rfl
  have hv2 := hI.c5 rfl
  have hv3 := hI.l10 rfl
  have hv4 := hI.c11 rfl
  have hv5 := hI.u12 rfl
  obtain ⟨hv6, hge⟩ := hI.a13 rfl
  have HZ7 := Hid.mk (hI.m13 rfl)
  have HBc := Hid.mk hI.below
  subst hv1 hv2 hv3 hv4 hv5 hv6
  clear hI hr hge
  have HBw := Hid.mk (bl2 HB1.out HBc.out)
  have H4c := Hid.mk ((HBc.out.block _ (lt_of_block H41.out)).trans H41.out)
  obtain ⟨wc, hwc⟩ : ∃ wc, wc = W := ⟨_, rfl⟩
  rw [← hwc] at HZ7 HBc HBw H4c ⊢
  clear hwc
  obtain ⟨x1, x2, x3, x4⟩ := HWD.out _ HBw.out
  have HMS : Hid (∀ W, Below wc.heap.size wc W → W.heap[g7]? = some (.cells #[.int .i64 id, .bool lo, .string nm, .int .i64 size, .int .i64 0, .slice none 0 0] 24 (0, 0)) ∧ W.cell? ⟨gw, 4, none⟩ = some (.string XC) ∧ W.heap[w.heap.size]? = some (.cells #[.int .i64 0, .bool false, .string ⟨#[]⟩, .int .i64 0, .int .i64 0, .slice none 0 0, .string ⟨#[]⟩] 117 (0, 0))) := Hid.mk (fun W hb => ⟨(hb.block _ (lt_of_block HZ7.out)).trans HZ7.out, cell_kept hb x4, (hb.block _ (lt_of_block H4c.out)).trans H4c.out⟩)
  go_wp2_with fail
  clear x1 x2 x3 x4
  refine wp_region_any (by kernel_rfl) ?_
  refine wpAny_take (i := 1) (v := .slice (some ⟨gw, 0, none⟩) 5 5) rfl (by kernel_rfl) (by kernel_rfl) (by kernel_rfl) (fun _ _ _ h => h) (Or.inl ⟨by rfl, fun _ => by rfl⟩) ?_
  simp only [List.getElem_toArray, List.getElem_cons_zero, List.getElem_cons_succ, Act.put, List.setIfInBounds_toArray, List.set_cons_zero, List.set_cons_succ]
  refine wpAny_take (i := 2) (v := .pointer (some ⟨gw, 4, none⟩)) rfl (by kernel_rfl) (by kernel_rfl) (by kernel_rfl) (fun _ _ _ h => h) (Or.inl ⟨by rfl, fun _ => by rfl⟩) ?_
  simp only [List.getElem_toArray, List.getElem_cons_zero, List.getElem_cons_succ, Act.put, List.setIfInBounds_toArray, List.set_cons_zero, List.set_cons_succ]
  refine Oi.wpAny_start (fun l a W => ∃ b0 b3 b4 b5 v28 v31 v32, l = #[b0, true, true, b3, b4, b5] ∧ a = ⟨#[p, .slice (some ⟨gw, 0, none⟩) 5 5, undef, undef, .pointer (some ⟨w.heap.size, 0, none⟩), .string XI, .bool lo, .pointer (some ⟨g7, 0, none⟩), .tuple #[.string XI, .bool lo], .slice (some ⟨gw, 0, none⟩) 5 5, .pointer (some ⟨gw, 2, none⟩), .string XL, .tuple #[.string XI, .bool lo], .string XI, .bool lo, .slice (some ⟨gw, 0, none⟩) 5 5, .pointer (some ⟨gw, 1, none⟩), .string nm, p, .string XI, .int .i64 id, .bool lo, p, .slice (some ⟨gw, 0, none⟩) 5 5, .pointer (some ⟨gw, 3, none⟩), .string XS, .int .i64 size, .agg #[.int .i64 id, .bool lo, .string nm, .int .i64 size, .int .i64 0, .slice none 0 0], v28, .slice (some ⟨gw, 0, none⟩) 5 5, .pointer (some ⟨gw, 4, none⟩), v31, v32], []⟩ ∧ Rm3 nm XC id size lo gw g7 w W b0 b3 b4 b5 v28 v31 v32) #[false, true, true, false, false, false] rfl (by decide) ⟨false, false, false, false, undef, undef, undef, rfl, rfl, ?_⟩ ?_ ?_
  · exact ⟨HBw.out.trans ⟨rfl, rfl, rfl, Nat.le_refl _, fun _ _ => rfl⟩, fun e => Bool.noConfusion e, fun e => Bool.noConfusion e, fun e => Bool.noConfusion e, fun _ => HMS.out _ ⟨rfl, rfl, rfl, Nat.le_refl _, fun _ _ => rfl⟩, fun e => Bool.noConfusion e, fun e => Bool.noConfusion e⟩
  rotate_left
  · rintro l a W i o ⟨b0, b3, b4, b5, v28, v31, v32, rfl, rfl, hI⟩ h0 ho hall K hK
    have hi : i < 6 := (Array.getElem?_eq_some_iff.1 ho).1
    have hii : i = 0 ∨ i = 1 ∨ i = 2 ∨ i = 3 ∨ i = 4 ∨ i = 5 := by omega
    clear hi
    rcases hii with rfl | rfl | rfl | rfl | rfl | rfl
    · simp only [List.getElem?_toArray, List.getElem?_cons_zero, Option.some.injEq] at ho
      subst ho
      have e5 : b5 = false := by cases hb : b5 with | false => rfl | true => (have h9 := (hI.ord hb).1; have h8 : b0 = false := h0; rw [h8] at h9; cases h9)
      obtain ⟨hg, hc, -⟩ := hI.pre e5
      have HN : Hid (Rm3 nm XC id size lo gw g7 w W true b3 b4 b5 (.agg #[.int .i64 id, .bool lo, .string nm, .int .i64 size, .int .i64 0, .slice none 0 0]) v31 v32) := Hid.mk ⟨hI.bw, fun _ => rfl, hI.l3, hI.u4, hI.pre, hI.fin, fun e => ⟨rfl, (hI.ord e).2⟩⟩
      obtain ⟨⟨z0, z1, z2, z3, z4, z5⟩, -⟩ := ce6 hg
      clear hall h0 hI e5 hg
      go_simp
      exact hK.out _ _ ⟨_, _, _, _, _, _, _, rfl, rfl, HN.out⟩
    · exact Bool.noConfusion h0
    · exact Bool.noConfusion h0
    · simp only [List.getElem?_toArray, List.getElem?_cons_zero, List.getElem?_cons_succ, Option.some.injEq] at ho
      subst ho
      have e5 : b5 = false := by cases hb : b5 with | false => rfl | true => (have h9 := (hI.ord hb).2; have h8 : b3 = false := h0; rw [h8] at h9; cases h9)
      obtain ⟨hg, hc, -⟩ := hI.pre e5
      have HN : Hid (Rm3 nm XC id size lo gw g7 w W b0 true b4 b5 v28 (.string XC) v32) := Hid.mk ⟨hI.bw, hI.l0, fun _ => rfl, hI.u4, hI.pre, hI.fin, fun e => ⟨(hI.ord e).1, rfl⟩⟩
      clear hall h0 hI e5 hg
      go_simp
      exact hK.out _ _ ⟨_, _, _, _, _, _, _, rfl, rfl, HN.out⟩
    · simp only [List.getElem?_toArray, List.getElem?_cons_zero, List.getElem?_cons_succ, Option.some.injEq] at ho
      subst ho
      have e0 : b0 = true := hall ⟨0, .data⟩ (by simp) rfl
      have e3 : b3 = true := hall ⟨3, .data⟩ (by simp) rfl
      have hv1 := hI.l0 e0
      have hv2 := hI.l3 e3
      subst hv1 hv2
      have HN : Hid (Rm3 nm XC id size lo gw g7 w W b0 b3 true b5 (.agg #[.int .i64 id, .bool lo, .string nm, .int .i64 size, .int .i64 0, .slice none 0 0]) (.string XC) (.agg #[.int .i64 id, .bool lo, .string nm, .int .i64 size, .int .i64 0, .slice none 0 0, .string XC])) := Hid.mk ⟨hI.bw, hI.l0, hI.l3, fun _ => rfl, hI.pre, hI.fin, hI.ord⟩
      clear hall h0 hI e0 e3
      go_simp
      exact hK.out _ _ ⟨_, _, _, _, _, _, _, rfl, rfl, HN.out⟩
    · simp only [List.getElem?_toArray, List.getElem?_cons_zero, List.getElem?_cons_succ, Option.some.injEq] at ho
      subst ho
      have e0 : b0 = true := hall ⟨0, .phase⟩ (by simp) rfl
      have e3 : b3 = true := hall ⟨3, .phase⟩ (by simp) rfl
      have e4 : b4 = true := hall ⟨4, .data⟩ (by simp) rfl
      have e5 : b5 = false := h0
      have hv1 := hI.u4 e4
      obtain ⟨-, -, hz⟩ := hI.pre e5
      subst hv1
      refine step_store_row W rfl (.tmp 4) (.tmp 32) 117 rfl w.heap.size 117 _ #[.int .i64 id, .bool lo, .string nm, .int .i64 size, .int .i64 0, .slice none 0 0, .string XC] rfl rfl hz dr7_i rfl (by simp [Value.oneCell']) ?_
      intro w8 hH8 hG8
      refine hK.out _ _ ⟨_, _, _, _, _, _, _, rfl, rfl, ?_⟩
      exact ⟨Below.grown hI.bw hG8 hI.bw.size (fun q hq => by cases hq; exact Nat.le_refl _), hI.l0, hI.l3, fun _ => rfl, fun e => Bool.noConfusion e, fun _ => hH8, fun _ => ⟨e0, e3⟩⟩
  rintro l a W ⟨b0, b3, b4, b5, v28, v31, v32, rfl, rfl, hI⟩ hr
  cases b0 with
  | false => exact (Oi.ready_nil (i := 0) hr rfl rfl (by intro e he _; simp at he; try (first | (rcases he with rfl <;> rfl) | (subst he; rfl)))).elim
  | true =>
  cases b3 with
  | false => exact (Oi.ready_nil (i := 3) hr rfl rfl (by intro e he _; simp at he; try (first | (rcases he with rfl <;> rfl) | (subst he; rfl)))).elim
  | true =>
  cases b4 with
  | false => exact (Oi.ready_nil (i := 4) hr rfl rfl (by intro e he _; simp at he; try (first | (rcases he with rfl | rfl <;> rfl) | (subst he; rfl)))).elim
  | true =>
  cases b5 with
  | false => exact (Oi.ready_nil (i := 5) hr rfl rfl (by intro e he _; simp at he; try (first | (rcases he with rfl | rfl | rfl | rfl | rfl | rfl <;> rfl) | (subst he; rfl)))).elim
  | true =>
  have hv1 := hI.l0 rfl
  have hv2 := hI.l3 rfl
  have hv3 := hI.u4 rfl
  have HFIN := Hid.mk (hI.fin rfl)
  have HBF := Hid.mk hI.bw
  subst hv1 hv2 hv3
  clear hI hr
  go_wp2_with fail
  refine bodyPost_ret (rm_res _ _ w.heap.size _ _ _ _ _ _ _ rfl HFIN.out) rfl ?_
  exact ⟨rfl, HBF.out⟩
end Bw
end Go.Proofs.YtlnkhlifkooohaaGreatDoor
