/- slices.IndexFunc and ContainsFunc of signals. -/
import Derived.Test.YtgjkioknnjbjfaaDoorMsgRow
import Derived.Test.YtgjkioknnjbjfaaDoorMgIdx
import Derived.Shelf.Abstract
namespace Go.Proofs.YtgjkioknnjbjfaaDoor
open Go.ChangeShapes Go.WideShapes Go.ChangeAt Go.RowKit
namespace Bw
open Sm
set_option maxHeartbeats 2000000 in
set_option maxRecDepth 100000 in
theorem indexFuncSg (g : Nat) (lb : Array Value) (eg : ∀ args w, (callFunc g args).run Tryd.prog w = .ok (.enter g args) w) (p : Sig → Bool) (a : Option Addr) (n c : Nat) (l : List Sig) (w : World) (hF : IsSigs w a n c l)
    (hp : ∀ W x, Below w.heap.size w W → x ∈ l → Calls Tryd.prog g (#[sgV x] ++ lb) W fun e w' => e = .returned (.bool (p x)) ∧ Below W.heap.size W w') :
    Calls Tryd.prog 69 #[.slice a n c, .func (.func g) #[] lb] w fun e w' => e = .returned (.int .i64 (idxK (fun i => p (l.getD i noS)) n)) ∧ Below w.heap.size w w' := by
  have HF := Hid.mk hF
  have HP := Hid.mk hp
  have hn63 : n ≤ 9223372036854775807 := by have h1 := hF.le; have h2 := hF.max; unfold maxLen at h2; omega
  clear hF hp
  go_enter Tryd.func69, Tryd.ntmps69
  go_wp2_with fail
  go_loopw [8] (fun i wr => ∃ k : Nat, k ≤ n ∧ i = .int .i64 k ∧ Hid (∀ j, j < k → p (l.getD j noS) = false) ∧ Hid (Below w.heap.size w wr)) (fun i _ => n - (intOf i).toNat)
  case atStart => exact ⟨0, Nat.zero_le _, rfl, Hid.mk (fun j hj => absurd hj (Nat.not_lt_zero _)), Hid.mk (Below.refl _ _)⟩
  case round =>
    obtain ⟨k, hk, rfl, HA, HB⟩ := hrel
    by_cases hlt : k < n
    · have hlt' : (k : Int) < (n : Int) := by omega
      obtain ⟨x, hx⟩ := HF.out.some hlt
      subst hx
      have hAt := (HF.out.kept HB.out).at hlt
      have hcall := HP.out wr _ HB.out (HF.out.mem hlt)
      have HY : Hid (∃ y, y = l.getD k noS) := Hid.mk ⟨_, rfl⟩
      obtain ⟨y, hy⟩ := HY.out
      rw [← hy] at hAt hcall
      have HYY := Hid.mk hy
      clear hy HY
      cases hq : p y with
      | true =>
        rw [hq] at hcall
        have HQ := Hid.mk hq
        clear hq
        obtain ⟨nm, st, sz, bk, sg, mu, di, ad, ky⟩ := y
        unfold sgV at hcall
        obtain ⟨c0, c1, c2, c3, c4, c5, c6, c7, c8⟩ := hAt
        simp only at hcall c0 c1 c2 c3 c4 c5 c6 c7 c8
        have HC := Hid.mk hcall
        clear hcall
        go_wp2_with (go_at_fn g; refine HC.out.mono ?_; rintro e w1 ⟨rfl, hb1⟩)
        have HB1 := Hid.mk (bl2 HB.out hb1)
        clear hb1
        go_ret
        exact ⟨by rw [idxK_hit HA.out (by show p (l.getD k noS) = true; rw [← HYY.out]; exact HQ.out) hlt]; rfl, HB1.out⟩
      | false =>
        rw [hq] at hcall
        have HQ := Hid.mk hq
        clear hq
        obtain ⟨nm, st, sz, bk, sg, mu, di, ad, ky⟩ := y
        unfold sgV at hcall
        obtain ⟨c0, c1, c2, c3, c4, c5, c6, c7, c8⟩ := hAt
        simp only at hcall c0 c1 c2 c3 c4 c5 c6 c7 c8
        have HC := Hid.mk hcall
        clear hcall
        go_wp2_with (go_at_fn g; refine HC.out.mono ?_; rintro e w1 ⟨rfl, hb1⟩)
        have HB1 := Hid.mk (bl2 HB.out hb1)
        clear hb1
        go_roundw
        case rel =>
          refine ⟨k + 1, by omega, by go_num, Hid.mk fun j hj => ?_, HB1⟩
          by_cases e : j = k
          · subst e; rw [← HYY.out]; exact HQ.out
          · exact HA.out j (by omega)
        case measure => simp [intOf]; omega
    · have e : k = n := by omega
      subst e
      go_wp2_with fail
      go_ret
      exact ⟨by rw [idxK_none HA.out]; rfl, HB.out⟩
set_option maxHeartbeats 2000000 in
theorem containsFuncSg (g : Nat) (lb : Array Value) (eg : ∀ args w, (callFunc g args).run Tryd.prog w = .ok (.enter g args) w) (p : Sig → Bool) (a : Option Addr) (n c : Nat) (l : List Sig) (w : World) (hF : IsSigs w a n c l)
    (hp : ∀ W x, Below w.heap.size w W → x ∈ l → Calls Tryd.prog g (#[sgV x] ++ lb) W fun e w' => e = .returned (.bool (p x)) ∧ Below W.heap.size W w') :
    Calls Tryd.prog 49 #[.slice a n c, .func (.func g) #[] lb] w fun e w' => e = .returned (.bool (l.any p)) ∧ Below w.heap.size w w' := by
  have HI := Hid.mk (indexFuncSg g lb eg p a n c l w hF hp)
  have HR := Hid.mk (idx_any p noS (l := l) (n := n) hF.len)
  clear hF hp eg
  generalize idxK (fun i => p (l.getD i noS)) n = r at *
  go_enter Tryd.func49, Tryd.ntmps49
  go_wp2_with fail
  refine HI.out.mono ?_
  rintro e w1 ⟨rfl, hb⟩
  have HB := Hid.mk hb
  clear hb
  go_wp2_with fail
  go_ret
  exact ⟨by rw [← HR.out]; rfl, HB.out⟩
end Bw
end Go.Proofs.YtgjkioknnjbjfaaDoor
