/- What package message's isOf, neverBoth and checkBeside answer. -/
import Derived.Test.YtgjkioknnjbjfaaDoorMsgRow
import Derived.Test.YtgjkioknnjbjfaaDoorFrCheck
import Derived.Test.YtgjkioknnjbjfaaDoorSgFacts
namespace Go.Proofs.YtgjkioknnjbjfaaDoor
open Go.ChangeShapes Go.WideShapes Go.ChangeAt Go.RowKit
namespace Bw
open Sm
theorem str_list (a : ByteArray) : a.toList = a.data.toList := ByteArray.toList_eq a
theorem str_yes {a b : ByteArray} (h : a = b) : (a.toList == b.toList) = true := by rw [h]; simp
theorem str_no {a b : ByteArray} (h : ¬ a = b) : (a.toList == b.toList) = false := by
  rw [str_list, str_list]
  apply beq_false_of_ne
  intro e
  apply h
  have h2 : a.data = b.data := Array.toList_inj.1 e
  cases a; cases b; simp only at h2; rw [h2]
theorem beside_B (w : World) (s t : Sig) : Below w.heap.size w ((w.alloc (sgC s)).alloc (sgC t)) := oW0_B w s t
set_option maxHeartbeats 4000000 in
theorem never_any (a b : Sig) (w : World) :
    Calls Tryd.prog 68 #[sgV a, sgV b] w fun e w' => e = .returned (.bool (nevB a b)) ∧ Below w.heap.size w w' := by
  have HB := Hid.mk (beside_B w a b)
  have hN : nevB a b = (decide (0 ≤ a.ky) && (decide (0 ≤ b.ky) && !(a.ky == b.ky))) := rfl
  rw [hN]
  clear hN
  obtain ⟨nm, st, sz, bk, sg, mu, di, ad, ky⟩ := a
  obtain ⟨nm', st', sz', bk', sg', mu', di', ad', ky'⟩ := b
  unfold sgC at HB
  unfold sgV
  simp only at HB ⊢
  by_cases h0 : 0 ≤ ky
  · by_cases h1 : 0 ≤ ky'
    · by_cases h2 : ky = ky'
      · subst h2
        rw [show (decide (0 ≤ ky) && (decide (0 ≤ ky) && !(ky == ky))) = false by simp]
        go_enter Tryd.func68, Tryd.ntmps68
        go_wp2_with fail
        go_ret
        exact ⟨rfl, HB.out⟩
      · have e2 : (ky == ky') = false := by simpa using h2
        rw [show (decide (0 ≤ ky) && (decide (0 ≤ ky') && !(ky == ky'))) = true by rw [e2]; simp [h0, h1]]
        go_enter Tryd.func68, Tryd.ntmps68
        go_wp2_with fail
        go_ret
        exact ⟨ret_b (by first | rfl | (rw [e2]; rfl) | (simp only [decide_eq_true_eq]; exact h2) | simp [h2]), HB.out⟩
    · rw [show (decide (0 ≤ ky) && (decide (0 ≤ ky') && !(ky == ky'))) = false by simp [h1]]
      go_enter Tryd.func68, Tryd.ntmps68
      go_wp2_with fail
      go_ret
      exact ⟨rfl, HB.out⟩
  · rw [show (decide (0 ≤ ky) && (decide (0 ≤ ky') && !(ky == ky'))) = false by simp [h0]]
    go_enter Tryd.func68, Tryd.ntmps68
    go_wp2_with fail
    go_ret
    exact ⟨rfl, HB.out⟩
theorem over_is (a b : Sig) (w : World) (h : wfS a) (h' : wfS b) {n : Nat} (hn : n ≤ 64) (ha : chkS a n = 0) (hb : chkS b n = 0) :
    Calls Tryd.prog 67 #[sgV a, sgV b] w fun e w' => e = .returned (.bool (ovS a b)) ∧ Below w.heap.size w w' := by
  obtain ⟨st, sz, hR⟩ := right_of ha
  obtain ⟨st', sz', hR'⟩ := right_of hb
  have := over_ok a b st sz st' sz' w h h' (chk_more ha) (chk_more hb) (hR.more hn (Nat.le_refl _)) (hR'.more hn (Nat.le_refl _))
  unfold ovS
  rw [hR.hst, hR.hsz, hR'.hst, hR'.hsz, Int.toNat_natCast, Int.toNat_natCast, Int.toNat_natCast, Int.toNat_natCast]
  exact this
set_option maxHeartbeats 4000000 in
theorem beside_any (a b : Sig) (w : World) (h : wfS a) (h' : wfS b) {n : Nat} (hn : n ≤ 64) (ha : chkS a n = 0) (hb : chkS b n = 0) :
    Calls Tryd.prog 48 #[sgV a, sgV b] w fun e w' => e = .returned (.int .i64 (besE a b)) ∧ Below w.heap.size w w' := by
  have HB := Hid.mk (beside_B w a b)
  have HGa := Hid.mk (oW0_s w a b)
  have HGb := Hid.mk (oW0_t w a b)
  have HO := Hid.mk (fun W => over_is a b W h h' hn ha hb)
  have HN := Hid.mk (fun W => never_any a b W)
  have hE : besE a b = if a.nm = b.nm then 9 else if (ovS a b && !nevB a b) = true then 10 else 0 := rfl
  rw [hE]
  clear hE h h' hn ha hb
  generalize ovS a b = O at *
  generalize nevB a b = V at *
  obtain ⟨nm, st, sz, bk, sg, mu, di, ad, ky⟩ := a
  obtain ⟨nm', st', sz', bk', sg', mu', di', ad', ky'⟩ := b
  unfold sgC at HB
  unfold oW0 sgC at HGa HGb
  unfold sgV at HO HN ⊢
  simp only at HB HGa HGb HO HN ⊢
  by_cases h0 : nm = nm'
  · have e0 := str_yes h0
    rw [if_pos h0]
    clear h0
    go_enter Tryd.func48, Tryd.ntmps48
    go_wp2_with fail
    go_ret
    exact ⟨rfl, HB.out⟩
  · have e0 := str_no h0
    rw [if_neg h0]
    clear h0
    go_enter Tryd.func48, Tryd.ntmps48
    go_wp2_with fail
    refine (HO.out _).mono ?_
    rintro e w1 ⟨rfl, hb1⟩
    have HB1 := Hid.mk (bl2 HB.out hb1)
    obtain ⟨a0, a1, a2, a3, a4, a5, a6, a7, a8⟩ := HGa.out.kept hb1
    obtain ⟨b0, b1, b2, b3, b4, b5, b6, b7, b8⟩ := HGb.out.kept hb1
    simp only at a0 a1 a2 a3 a4 a5 a6 a7 a8 b0 b1 b2 b3 b4 b5 b6 b7 b8
    clear hb1
    cases O with
    | false =>
      go_wp2_with fail
      go_ret
      exact ⟨rfl, HB1.out⟩
    | true =>
      go_wp2_with fail
      refine (HN.out _).mono ?_
      rintro e w2 ⟨rfl, hb2⟩
      have HB2 := Hid.mk (bl2 HB1.out hb2)
      clear hb2
      cases V with
      | true =>
        go_wp2_with fail
        go_ret
        exact ⟨rfl, HB2.out⟩
      | false =>
        go_wp2_with fail
        go_ret
        exact ⟨rfl, HB2.out⟩
def ofB (id : Int) (lo : Bool) (v : MsV) : Bool := (id == v.m.id) && (lo == v.m.lo)
theorem ofB_B (w : World) (id : Int) (lo fa re : Bool) (sz : Int) (a : Option Addr) (len cap : Nat) (v : MsV) : Below w.heap.size w ((w.alloc (frameC id lo fa re sz a len cap)).alloc (msC v)) := ((Below.refl _ _).alloc (Nat.le_refl _) _).alloc (by simp) _
set_option maxHeartbeats 4000000 in
theorem isOf_any (id : Int) (lo fa re : Bool) (sz : Int) (a : Option Addr) (len cap : Nat) (v : MsV) (w : World) :
    Calls Tryd.prog 28 #[frameV id lo fa re sz a len cap, msV v] w fun e w' => e = .returned (.bool (ofB id lo v)) ∧ Below w.heap.size w w' := by
  have HB := Hid.mk (ofB_B w id lo fa re sz a len cap v)
  have hN : ofB id lo v = ((id == v.m.id) && (lo == v.m.lo)) := rfl
  rw [hN]
  clear hN
  obtain ⟨⟨mid, mlo, mnm, msize, mch, msg⟩, ma, mn, mcap⟩ := v
  unfold frameC msC at HB
  unfold frameV msV
  simp only at HB ⊢
  by_cases h0 : id = mid
  · have e0 : (id == mid) = true := by simpa using h0
    rw [e0]
    clear h0
    go_enter Tryd.func28, Tryd.ntmps28
    go_wp2_with fail
    go_ret
    exact ⟨ret_b (by simp), HB.out⟩
  · have e0 : (id == mid) = false := by simpa using h0
    rw [e0]
    clear h0
    go_enter Tryd.func28, Tryd.ntmps28
    go_wp2_with fail
    go_ret
    exact ⟨ret_b (by simp), HB.out⟩
end Bw
end Go.Proofs.YtgjkioknnjbjfaaDoor
