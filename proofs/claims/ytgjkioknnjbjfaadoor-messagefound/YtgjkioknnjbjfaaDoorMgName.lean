/- What package message's byName answers: a map of readings. -/
import Derived.Test.YtgjkioknnjbjfaaDoorMsgTold
import Derived.Test.YtgjkioknnjbjfaaDoorMgReadOk
import Derived.Maps.OwnSet
namespace Go.Proofs.YtgjkioknnjbjfaaDoor
open Go.ChangeShapes Go.WideShapes Go.ChangeAt Go.RowKit
namespace Bw
open Sm
/-- how an element of the map reads: as itself -/
def RV (v : Value) : Option (DataW Value × List MemPlace) := some (.held v, [])
/-- block b is a map of readings -/
def MapIs (w : World) (b n : Nat) (D : DV) : Prop := w.ownsMap Tryd.prog 9 RV b n D
theorem str_law : Maps.Keyed Tryd.prog 9 := Maps.string_keyed Tryd.underlying9
theorem key_is {s : ByteArray} (h : s.size ≤ maxLen) : keyOf Tryd.prog 9 (.string s) = some (kyL s) := WideMaps.keyOf_string_mk Tryd.underlying9 h
theorem zero_rd (w : World) : (zeroValue 43).run Tryd.prog w = .ok (.agg #[.string ⟨#[]⟩, .int .i64 0, .int .i64 0]) w := by kernel_rfl
theorem MapIs.kept {w w' : World} {b n : Nat} {D : DV} (h : MapIs w b n D) (hb : Below w.heap.size w w') : MapIs w' b n D :=
  World.ownsMap.kept h (row := none) ⟨hb.os, hb.tape, hb.output, hb.size, fun k hk _ => hb.block k hk⟩ (by simp)
/-- a row of readings of one's own is a row -/
theorem rdsC_len : ∀ l : List Rd, (rdsC l).length = l.length * 3
  | [] => rfl
  | x :: l => by rw [show x :: l = [x] ++ l from rfl, rdsC_append, List.length_append, rdsC_len l, rdsC_one]; simp; omega
theorem rdsC_cons (x : Rd) (l : List Rd) : rdsC (x :: l) = rdCl x ++ rdsC l := by simp [rdsC]
theorem rdsC_at : ∀ (l : List Rd) (i : Nat) (hi : i < l.length) (k : Nat), k < 3 → (rdsC l)[i * 3 + k]? = (rdCl l[i])[k]?
  | [], i, hi, _, _ => absurd hi (Nat.not_lt_zero _)
  | x :: l, 0, _, k, hk => by
    rw [rdsC_cons, List.getElem?_append_left (by simp [rdCl]; omega)]
    simp
  | x :: l, i + 1, hi, k, hk => by
    have := rdsC_at l i (by simpa using hi) k hk
    rw [rdsC_cons, List.getElem?_append_right (by simp [rdCl]; omega)]
    rw [show (i + 1) * 3 + k - (rdCl x).length = i * 3 + k by simp [rdCl]; omega, this]
    simp
theorem rds_own {w : World} {base : Nat} {u : Value} {l : List Rd} (h : w.ownsRow base 43 3 u l.length (rdsC l)) : ∃ a c, u = .slice a l.length c ∧ IsRds w a l.length c l := by
  have h0 := h
  obtain ⟨hl, h2⟩ := h
  rcases h2 with ⟨h3, h4⟩ | ⟨g', cap, cur, hv, hg, hh, hc, hm, hsz, htk⟩
  · refine ⟨none, 0, ?_, ?_⟩
    · rw [h3, h4]
    · exact ⟨rfl, by omega, Nat.zero_le _, fun _ => h4, fun _ e => by cases e⟩
  · refine ⟨some ⟨g', 0, none⟩, cap, hv, rfl, hc, hm, (fun e => by cases e), fun x hx i hi k hk => ?_⟩
    cases hx
    have h5 : i * 3 + k < (rdsC l).length := by rw [rdsC_len]; omega
    have h6 := rdsC_at l i hi k hk
    rw [← h6, List.getElem?_eq_getElem h5]
    subst hv
    exact h0.cells rfl _ _ (List.getElem?_eq_getElem h5)
set_option maxHeartbeats 8000000 in
set_option maxRecDepth 100000 in
theorem byName_any (a : Option Addr) (n c : Nat) (l : List Rd) (w : World) (hF : IsRds w a n c l) (hn : ∀ r ∈ l, r.nm.size ≤ maxLen) :
    Calls Tryd.prog 37 #[.slice a n c] w fun e w' => e = .returned (.map (some w.heap.size)) ∧ (∃ D, MapIs w' w.heap.size n D ∧ Told D l) ∧ Below w.heap.size w w' := by
  have hmm := @run_makeMap Tryd.prog
  have hlen := hF.len
  have hnm : n ≤ maxLen := Nat.le_trans hF.le hF.max
  have hn63 : (n : Int) ≤ 9223372036854775807 := by unfold maxLen at hnm; omega
  have HF := Hid.mk hF
  have HN : Hid (∀ k, k < n → (l.getD k noR).nm.size ≤ maxLen) := Hid.mk (fun k hk => hn _ (by
    rw [getD_at (by omega)]
    exact List.getElem_mem _))
  have HT : Hid (∀ k, k < n → l.take (k + 1) = l.take k ++ [l.getD k noR]) := Hid.mk (fun k hk => by
    rw [List.take_succ_eq_append_getElem (by omega), getD_at (by omega)])
  have HTA : Hid (l.take n = l) := Hid.mk (by rw [← hlen]; exact List.take_length)
  have HNM := Hid.mk hnm
  clear hF hn hlen hnm
  go_enter Tryd.func37, Tryd.ntmps37
  go_wp2_with fail
  go_loopw [9] (fun i wr => ∃ k : Nat, k ≤ n ∧ i = .int .i64 k ∧ Hid (∃ D, MapIs wr w.heap.size k D ∧ Told D (l.take k)) ∧ Hid (Below w.heap.size w wr)) (fun i _ => n - (intOf i).toNat)
  case atStart => exact ⟨0, Nat.zero_le _, rfl, Hid.mk ⟨_, World.ownsMap_made _ _ _ _, Told.nil⟩, Hid.mk ((Below.refl _ _).alloc (Nat.le_refl _) _)⟩
  case round =>
    obtain ⟨k, hk, rfl, HM, HB⟩ := hrel
    by_cases hlt : k < n
    · have hlt' : (k : Int) < (n : Int) := by omega
      obtain ⟨x, hx⟩ := HF.out.some hlt
      subst hx
      obtain ⟨c0, c1, c2⟩ := (HF.out.kept HB.out).at hlt
      have HTk := Hid.mk (HT.out k hlt)
      have HNk := Hid.mk (HN.out k hlt)
      obtain ⟨D, hD, hTold⟩ := HM.out
      generalize l.getD k noR = r at *
      obtain ⟨nm, num, den⟩ := r
      simp only at c0 c1 c2 HTk HNk
      have HAL := Hid.mk (awB1 wr (.cells #[.string nm, .int .i64 num, .int .i64 den] 43))
      have HD := Hid.mk (hD.kept HAL.out)
      have HTO := Hid.mk (hTold.snoc ⟨nm, num, den⟩)
      have HKM : Hid (k < maxLen) := Hid.mk (Nat.lt_of_lt_of_le hlt HNM.out)
      clear hD hTold HM
      go_wp2_with (at_mapUpdate; refine wpList_mapUpdate_own _ rfl _ _ _ 66 rfl 9 43 str_law Tryd.underlying66 RV w.heap.size k D rfl HD.out HKM.out _ _ (kyL nm) rfl rfl (key_is HNk.out) _ [] rfl ?_; intro w1 hown1 hgrow1; have HO1 := Hid.mk hown1; have HG1 := Hid.mk hgrow1; clear hown1 hgrow1)
      go_roundw
      case rel =>
        refine ⟨k + 1, by omega, by go_num, Hid.mk ⟨_, HO1.out, by rw [HTk.out]; exact HTO.out⟩, Hid.mk ?_⟩
        exact (bl2 HB.out HAL.out).grown HG1.out (bl2 HB.out HAL.out).size (fun j hj => by cases hj; exact Nat.le_refl _)
      case measure => simp [intOf]; omega
    · have e : k = n := by omega
      subst e
      go_wp2_with fail
      go_ret
      refine ⟨rfl, ?_, HB.out⟩
      have := HM.out
      rw [HTA.out] at this
      exact this
end Bw
end Go.Proofs.YtgjkioknnjbjfaaDoor
