/- MessageFound: what is found has the frame's number, and no other has. -/
import Derived.Test.YtgjkioknnjbjfaaDoorMgFindA
import Derived.Test.YtgjkioknnjbjfaaDoorMgMeant
namespace Go.Proofs.YtgjkioknnjbjfaaDoor
open Go.ChangeShapes Go.WideShapes Go.ChangeAt Go.RowKit
namespace Bw
open Sm
def cntK (f : Nat → Bool) : Nat → Nat
  | 0 => 0
  | k + 1 => if f k = true then cntK f k + 1 else cntK f k
theorem cntK_le (f : Nat → Bool) : ∀ k, cntK f k ≤ k
  | 0 => Nat.le_refl _
  | k + 1 => by
    have := cntK_le f k
    simp only [cntK]
    split <;> omega
theorem cntK_none {f : Nat → Bool} : ∀ {n : Nat}, (∀ j, j < n → f j = false) → cntK f n = 0
  | 0, _ => rfl
  | n + 1, h => by
    have h1 := cntK_none (f := f) (n := n) (fun j hj => h j (by omega))
    simp [cntK, h n (by omega), h1]
theorem cntK_one {f : Nat → Bool} {k : Nat} (hk : f k = true) (h : ∀ j, j ≠ k → f j = false) : ∀ {n : Nat}, k < n → cntK f n = 1
  | 0, hn => absurd hn (Nat.not_lt_zero _)
  | n + 1, hn => by
    by_cases e : n = k
    · subst e
      have h1 := cntK_none (f := f) (n := n) (fun j hj => h j (by omega))
      simp [cntK, hk, h1]
    · have h1 := cntK_one hk h (n := n) (by omega)
      simp [cntK, h n e, h1]
theorem cntK_congr {f g : Nat → Bool} : ∀ {n : Nat}, (∀ j, j < n → f j = g j) → cntK f n = cntK g n
  | 0, _ => rfl
  | n + 1, h => by
    simp only [cntK]
    rw [cntK_congr (n := n) (fun j hj => h j (by omega)), h n (by omega)]
theorem cntK_oneB {f : Nat → Bool} {k m : Nat} (hk : f k = true) (h : ∀ j, j ≠ k → j < m → f j = false) {n : Nat} (hn : k < n) (hm : n ≤ m) : cntK f n = 1 := by
  rw [cntK_congr (g := fun j => decide (j = k)) (fun j hj => by
    by_cases e : j = k
    · subst e; simp [hk]
    · rw [h j e (by omega)]; simp [e])]
  exact cntK_one (k := k) (by simp) (fun j hj => by simp [hj]) hn
/-- of right messages no two have one number -/
theorem all_apart {l : List MsV} (h : chkA l = 0) {i j : Nat} (hi : i < j) (hj : j < l.length) : ¬ ((l.getD i noM).m.id = (l.getD j noM).m.id ∧ (l.getD i noM).m.lo = (l.getD j noM).m.lo) := by
  unfold chkA at h
  split at h
  · omega
  have h1 := firstE_zero h j hj
  unfold allE at h1
  split at h1
  · split at h1
    · omega
    rename_i h2
    intro h3
    apply h2
    rw [List.any_eq_true]
    refine ⟨l.getD i noM, ?_, ?_⟩
    · rw [getD_at (by omega)]
      rw [List.mem_take_iff_getElem]
      exact ⟨i, by omega, rfl⟩
    · unfold clB
      rw [h3.1, h3.2]
      simp
  · rename_i h2; exact absurd h1 h2
theorem ofB_iff {id : Int} {lo : Bool} {v : MsV} : ofB id lo v = true ↔ id = v.m.id ∧ lo = v.m.lo := by
  unfold ofB
  simp
set_option maxHeartbeats 16000000 in
set_option maxRecDepth 100000 in
theorem found_law (a : Option Addr) (n c : Nat) (l : List MsV) (id : Int) (lo fa re : Bool) (sz : Int) (fa0 : Option Addr) (len cap : Nat) (w : World) (hF : IsMsgs w a n c l) (hS : SizesAt w) (hl : len ≤ maxLen) :
    Calls Tryd.prog 5 #[.slice a n c, frameV id lo fa re sz fa0 len cap] w fun e w' => e = .returned (.bool true) ∧ Below w.heap.size w w' := by
  have hb := below_box w id lo fa re sz fa0 len cap
  have HBX := Hid.mk hb
  have HAT := Hid.mk (FrAt.box w id lo fa re sz fa0 len cap)
  have HFI := Hid.mk (find_any a n c l id lo fa re sz fa0 len cap _ (hF.kept hb) (hS.kept hb) hl)
  have HME := Hid.mk (fun W (h : Below w.heap.size w W) => meant_any W (hS.kept h))
  have hlen := hF.row.len
  have hn63 : (n : Int) ≤ 9223372036854775807 := by have h1 := hF.row.le; have h2 := hF.row.max; unfold maxLen at h2; omega
  have HF := Hid.mk hF
  have HI : Hid (findI l id lo = idxK (fun i => ofB id lo (l.getD i noM)) n) := Hid.mk (by unfold findI; rw [hlen])
  have HOF : Hid (∀ i, ofB id lo (l.getD i noM) = ((id == (l.getD i noM).m.id) && (lo == (l.getD i noM).m.lo))) := Hid.mk (fun _ => rfl)
  have HAP : Hid (findE l id lo fa re sz len = 0 → ∀ i j, i < j → j < n → ofB id lo (l.getD i noM) = true → ofB id lo (l.getD j noM) = true → False) := Hid.mk (fun h i j hij hj h1 h2 => by
    have hc : chkA l = 0 := by
      unfold findE at h
      split at h
      · rename_i h3; exact absurd h h3
      · rename_i h3; exact Decidable.not_not.1 h3
    have e1 := ofB_iff.1 h1
    have e2 := ofB_iff.1 h2
    exact all_apart hc hij (by omega) ⟨e1.1.symm.trans e2.1, e1.2.symm.trans e2.2⟩)
  generalize findI l id lo = FI at *
  generalize findE l id lo fa re sz len = FE at *
  clear hF hS hl hb hlen
  unfold frameC at HBX HAT HFI
  unfold frameV at HFI ⊢
  by_cases h0 : FE = 0
  case neg =>
    have hne : (FE != 0) = true := by simpa using h0
    rw [if_neg h0] at HFI
    clear h0
    go_enter Tryd.func5, Tryd.ntmps5
    go_wp2_with fail
    refine HFI.out.mono ?_
    rintro e w1 ⟨rfl, hb1⟩
    have HB1 := Hid.mk (bl2 HBX.out hb1)
    clear hb1
    go_wp2_with fail
    refine (HME.out _ HB1.out).mono ?_
    rintro e w2 ⟨rfl, hb2⟩
    have HB2 := Hid.mk (bl2 HB1.out hb2)
    clear hb2
    go_wp2_with fail
    refine (HME.out _ HB2.out).mono ?_
    rintro e w3 ⟨rfl, hb3⟩
    have HB3 := Hid.mk (bl2 HB2.out hb3)
    clear hb3
    go_wp2_with fail
    go_ret
    exact ⟨rfl, HB3.out⟩
  case pos =>
  subst h0
  rw [if_pos rfl] at HFI
  obtain ⟨f, hf⟩ : ∃ f : Nat → Bool, f = fun i => ofB id lo (l.getD i noM) := ⟨_, rfl⟩
  rw [← hf] at HI
  have HFF : Hid (∀ i, f i = ofB id lo (l.getD i noM)) := Hid.mk (fun i => by rw [hf])
  clear hf
  go_enter Tryd.func5, Tryd.ntmps5
  go_wp2_with fail
  refine HFI.out.mono ?_
  rintro e w1 ⟨rfl, hb1⟩
  have HB1 := Hid.mk (bl2 HBX.out hb1)
  have HA1 := Hid.mk (HAT.out.kept hb1)
  clear hb1 HFI
  go_wp2_with fail
  refine (HME.out _ HB1.out).mono ?_
  rintro e w2 ⟨rfl, hb2⟩
  have HB2 := Hid.mk (bl2 HB1.out hb2)
  have HA2 := Hid.mk (HA1.out.kept hb2)
  clear hb2 HME
  go_wp2_with fail
  go_loopw [7, 25] (fun s i wr => ∃ k : Nat, k ≤ n ∧ i = .int .i64 k ∧ s = .int .i64 (cntK f k : Int) ∧ Hid (Below w2.heap.size w2 wr)) (fun _ i _ => n - (intOf i).toNat)
  case atStart => exact ⟨0, Nat.zero_le _, rfl, rfl, Hid.mk (Below.refl _ _)⟩
  case round =>
    obtain ⟨k, hk, rfl, rfl, HB⟩ := hrel
    have hck := cntK_le f k
    by_cases hlt : k < n
    · have hlt' : (k : Int) < (n : Int) := by omega
      obtain ⟨x, hx⟩ := HF.out.row.some hlt
      subst hx
      have hAt := (HF.out.kept (bl2 HB2.out HB.out)).at hlt
      have HBX1 := Hid.mk (ms_box wr (l.getD k noM))
      have hfr := (HA2.out.kept HB.out).kept HBX1.out
      have HFk : Hid (f k = ((id == (l.getD k noM).m.id) && (lo == (l.getD k noM).m.lo))) := Hid.mk (by rw [HFF.out, HOF.out])
      have HSC : Hid (cntK f (k + 1) = if f k = true then cntK f k + 1 else cntK f k) := Hid.mk rfl
      generalize l.getD k noM = v at *
      obtain ⟨⟨mid, mlo, mnm, size, mch, sigs⟩, ma, mn, mcap⟩ := v
      obtain ⟨c0, c1, c2, c3, c4, c5⟩ := hAt
      unfold msC at HBX1 hfr
      simp only at HBX1 hfr HFk c0 c1 c2 c3 c4 c5
      obtain ⟨r0, r1, r2, r3, r4, r5⟩ := hfr
      generalize hC : cntK f k = C at *
      have HC := Hid.mk hC
      clear hC
      have e9 : wrap64 ((C : Int) + 1) = ((C + 1 : Nat) : Int) := by unfold wrap64; omega
      by_cases hid : mid = id
      · subst hid
        by_cases hlo : mlo = lo
        · subst hlo
          have HN : Hid (cntK f (k + 1) = C + 1) := Hid.mk (by rw [HSC.out, HFk.out]; simp)
          go_wp2_with fail
          go_roundw
          case rel => exact ⟨k + 1, by omega, by go_num, by rw [HN.out]; first | rfl | go_num, Hid.mk (bl2 HB.out HBX1.out)⟩
          case measure => simp [intOf]; omega
        · have hlb : (mlo == lo) = false := by simpa using hlo
          have hlb2 : (lo == mlo) = false := by simpa using fun h => hlo h.symm
          have HN : Hid (cntK f (k + 1) = C) := Hid.mk (by rw [HSC.out, HFk.out, hlb2]; simp)
          clear hlo
          go_wp2_with fail
          go_roundw
          case rel => exact ⟨k + 1, by omega, by go_num, by rw [HN.out], Hid.mk (bl2 HB.out HBX1.out)⟩
          case measure => simp [intOf]; omega
      · have hib : (mid == id) = false := by simpa using hid
        have hib2 : (id == mid) = false := by simpa using fun h => hid h.symm
        have HN : Hid (cntK f (k + 1) = C) := Hid.mk (by rw [HSC.out, HFk.out, hib2]; simp)
        clear hid
        go_wp2_with fail
        go_roundw
        case rel => exact ⟨k + 1, by omega, by go_num, by rw [HN.out], Hid.mk (bl2 HB.out HBX1.out)⟩
        case measure => simp [intOf]; omega
    · have e : k = n := by omega
      subst e
      rcases idx_first f k with h | ⟨q, hq, h1, h2⟩
      · have HV : Hid (FI = -1) := Hid.mk (by rw [HI.out, idxK_none h])
        have HC : Hid (cntK f k = 0) := Hid.mk (cntK_none h)
        have hV := HV.out
        have hC := HC.out
        rw [hC]
        subst hV
        clear h hck hC
        go_wp2
        go_quiet (fail)
        go_wp2
        go_ret
        exact ⟨rfl, bl2 HB2.out (bl2 HB.out ⟨rfl, rfl, rfl, Nat.le_refl _, fun _ _ => rfl⟩)⟩
      · have hfq : ∀ j, j ≠ q → j < k → f j = false := fun j hne hj => by
          cases hb : f j with
          | false => rfl
          | true =>
            exfalso
            rw [HFF.out] at hb h1
            rcases Nat.lt_or_ge j q with h | h
            · exact HAP.out trivial j q h hq hb h1
            · exact HAP.out trivial q j (by omega) hj h1 hb
        have HV : Hid (FI = q) := Hid.mk (by rw [HI.out, idxK_hit h2 h1 hq])
        have HC : Hid (cntK f k = 1) := Hid.mk (cntK_oneB h1 hfq hq (Nat.le_refl _))
        have hofq : ofB id lo (l.getD q noM) = true := by rw [← HFF.out]; exact h1
        have hid := (ofB_iff.1 hofq).1
        obtain ⟨x, hx⟩ := HF.out.row.some hq
        subst hx
        have c0 := ((HF.out.kept (bl2 HB2.out HB.out)).at hq).c0
        rw [← hid] at c0
        obtain ⟨r0, r1, r2, r3, r4, r5⟩ := HA2.out.kept HB.out
        have hq' : (q : Int) < (k : Int) := by omega
        have hq0 : (0 : Int) ≤ (q : Int) := by omega
        have hV := HV.out
        have hC := HC.out
        rw [hC]
        subst hV
        clear h1 h2 hck hC hofq hid hfq
        go_wp2
        go_quiet (fail)
        go_wp2
        go_ret
        exact ⟨rfl, bl2 HB2.out (bl2 HB.out ⟨rfl, rfl, rfl, Nat.le_refl _, fun _ _ => rfl⟩)⟩
end Bw
end Go.Proofs.YtgjkioknnjbjfaaDoor
