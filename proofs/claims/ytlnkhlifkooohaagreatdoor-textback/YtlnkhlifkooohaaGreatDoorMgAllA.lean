/- slices.IndexFunc and ContainsFunc of messages; what message.CheckAll answers. -/
import Derived.Test.YtlnkhlifkooohaaGreatDoorMsgRow
import Derived.Test.YtlnkhlifkooohaaGreatDoorMgCheckA
import Derived.Shelf.Abstract
namespace Go.Proofs.YtlnkhlifkooohaaGreatDoor
open Go.ChangeShapes Go.WideShapes Go.ChangeAt Go.RowKit
namespace Bw
open Sm
set_option maxHeartbeats 2000000 in
set_option maxRecDepth 100000 in
theorem indexFuncMs (g : Nat) (lb : Array Value) (eg : ∀ args w, (callFunc g args).run Tryz.prog w = .ok (.enter g args) w) (p : MsV → Bool) (a : Option Addr) (n c : Nat) (l : List MsV) (w : World) (hF : IsMsgs w a n c l)
    (hp : ∀ W x, Below w.heap.size w W → x ∈ l → Calls Tryz.prog g (#[msV x] ++ lb) W fun e w' => e = .returned (.bool (p x)) ∧ Below W.heap.size W w') :
    Calls Tryz.prog 147 #[.slice a n c, .func (.func g) #[] lb] w fun e w' => e = .returned (.int .i64 (idxK (fun i => p (l.getD i noM)) n)) ∧ Below w.heap.size w w' := by
  have HF := Hid.mk hF
  have HP := Hid.mk hp
  have hn63 : n ≤ 9223372036854775807 := by have h1 := hF.row.le; have h2 := hF.row.max; unfold maxLen at h2; omega
  clear hF hp
  go_enter Tryz.func147, Tryz.ntmps147
  go_wp2_with fail
  go_loopw [8] (fun i wr => ∃ k : Nat, k ≤ n ∧ i = .int .i64 k ∧ Hid (∀ j, j < k → p (l.getD j noM) = false) ∧ Hid (Below w.heap.size w wr)) (fun i _ => n - (intOf i).toNat)
  case atStart => exact ⟨0, Nat.zero_le _, rfl, Hid.mk (fun j hj => absurd hj (Nat.not_lt_zero _)), Hid.mk (Below.refl _ _)⟩
  case round =>
    obtain ⟨k, hk, rfl, HA, HB⟩ := hrel
    by_cases hlt : k < n
    · have hlt' : (k : Int) < (n : Int) := by omega
      obtain ⟨x, hx⟩ := HF.out.row.some hlt
      subst hx
      have hAt := (HF.out.kept HB.out).at hlt
      have hcall := HP.out wr _ HB.out (HF.out.mem hlt)
      have HY : Hid (∃ y, y = l.getD k noM) := Hid.mk ⟨_, rfl⟩
      obtain ⟨y, hy⟩ := HY.out
      rw [← hy] at hAt hcall
      have HYY := Hid.mk hy
      clear hy HY
      cases hq : p y with
      | true =>
        rw [hq] at hcall
        have HQ := Hid.mk hq
        clear hq
        obtain ⟨⟨mid, mlo, mnm, msz, mch, msg⟩, ma, mn, mcap⟩ := y
        unfold msV at hcall
        obtain ⟨c0, c1, c2, c3, c4, c5⟩ := hAt
        simp only at hcall c0 c1 c2 c3 c4 c5
        have HC := Hid.mk hcall
        clear hcall
        go_wp2_with (go_at_fn g; refine HC.out.mono ?_; rintro e w1 ⟨rfl, hb1⟩)
        have HB1 := Hid.mk (bl2 HB.out hb1)
        clear hb1
        go_ret
        exact ⟨by rw [idxK_hit HA.out (by show p (l.getD k noM) = true; rw [← HYY.out]; exact HQ.out) hlt]; rfl, HB1.out⟩
      | false =>
        rw [hq] at hcall
        have HQ := Hid.mk hq
        clear hq
        obtain ⟨⟨mid, mlo, mnm, msz, mch, msg⟩, ma, mn, mcap⟩ := y
        unfold msV at hcall
        obtain ⟨c0, c1, c2, c3, c4, c5⟩ := hAt
        simp only at hcall c0 c1 c2 c3 c4 c5
        have HC := Hid.mk hcall
        clear hcall
        go_wp2_with (go_at_fn g; refine HC.out.mono ?_; rintro e w1 ⟨rfl, hb1⟩)
        have HB1 := Hid.mk (bl2 HB.out hb1)
        clear hb1
        go_roundw
        case rel =>
          refine ⟨k + 1, by omega, by go_num, Hid.mk fun j hj => ?_, HB1⟩
          by_cases e : j = k
          · subst e; rw [← HYY.out]; exact HQ.out
          · exact HA.out j (by omega)
        case measure => simp [intOf]; omega
    · have e : k = n := by omega
      subst e
      go_wp2_with fail
      go_ret
      exact ⟨by rw [idxK_none HA.out]; rfl, HB.out⟩
end Bw
end Go.Proofs.YtlnkhlifkooohaaGreatDoor
namespace Go.Proofs.YtlnkhlifkooohaaGreatDoor
open Go.ChangeShapes Go.WideShapes Go.ChangeAt Go.RowKit
namespace Bw
open Sm
set_option maxHeartbeats 2000000 in
theorem containsFuncMs (g : Nat) (lb : Array Value) (eg : ∀ args w, (callFunc g args).run Tryz.prog w = .ok (.enter g args) w) (p : MsV → Bool) (a : Option Addr) (n c : Nat) (l : List MsV) (w : World) (hF : IsMsgs w a n c l)
    (hp : ∀ W x, Below w.heap.size w W → x ∈ l → Calls Tryz.prog g (#[msV x] ++ lb) W fun e w' => e = .returned (.bool (p x)) ∧ Below W.heap.size W w') :
    Calls Tryz.prog 106 #[.slice a n c, .func (.func g) #[] lb] w fun e w' => e = .returned (.bool (l.any p)) ∧ Below w.heap.size w w' := by
  have HI := Hid.mk (indexFuncMs g lb eg p a n c l w hF hp)
  have HR := Hid.mk (idx_any p noM (l := l) (n := n) hF.row.len)
  clear hF hp eg
  generalize idxK (fun i => p (l.getD i noM)) n = r at *
  go_enter Tryz.func106, Tryz.ntmps106
  go_wp2_with fail
  refine HI.out.mono ?_
  rintro e w1 ⟨rfl, hb⟩
  have HB := Hid.mk hb
  clear hb
  go_wp2_with fail
  go_ret
  exact ⟨by rw [← HR.out]; rfl, HB.out⟩
end Bw
end Go.Proofs.YtlnkhlifkooohaaGreatDoor
namespace Go.Proofs.YtlnkhlifkooohaaGreatDoor
open Go.ChangeShapes Go.WideShapes Go.ChangeAt Go.RowKit
namespace Bw
open Sm
/-- have two one name, or one number? -/
def clB (a b : Msg) : Bool := decide (a.nm = b.nm) || ((a.id == b.id) && (a.lo == b.lo))
def allE (l : List MsV) (i : Nat) : Int := if chkM (l.getD i noM).m = 0 then (if ((l.take i).any fun a => clB a.m (l.getD i noM).m) = true then 9 else 0) else chkM (l.getD i noM).m
def chkA (l : List MsV) : Int := if 20 < l.length then 2 else firstE (allE l) l.length
theorem enter_clash : ∀ args w, (callFunc 105 args).run Tryz.prog w = .ok (.enter 105 args) w := enters_of Tryz.func105 (by kernel_rfl) rfl
set_option maxHeartbeats 4000000 in
theorem clash_any (a v : MsV) (g : Nat) (w : World) (hg : MsAt w g v) :
    Calls Tryz.prog 105 #[msV a, .pointer (some ⟨g, 0, none⟩)] w fun e w' => e = .returned (.bool (clB a.m v.m)) ∧ Below w.heap.size w w' := by
  have HB := Hid.mk (ms_box w a)
  have hR : clB a.m v.m = (decide (a.m.nm = v.m.nm) || ((a.m.id == v.m.id) && (a.m.lo == v.m.lo))) := rfl
  rw [hR]
  have hg1 := hg.kept HB.out
  clear hR hg
  obtain ⟨⟨mid, mlo, mnm, size, mch, sigs⟩, ma, mn, mcap⟩ := a
  obtain ⟨⟨mid', mlo', mnm', size', mch', sigs'⟩, ma', mn', mcap'⟩ := v
  unfold msC at HB hg1
  unfold msV
  simp only at HB hg1 ⊢
  obtain ⟨c0, c1, c2, c3, c4, c5⟩ := hg1
  simp only at c0 c1 c2 c3 c4 c5
  by_cases h0 : mnm = mnm'
  · have e0 := str_yes h0
    rw [show decide (mnm = mnm') = true by simpa using h0]
    clear h0
    go_enter Tryz.func105, Tryz.ntmps105
    go_wp2_with fail
    go_ret
    exact ⟨rfl, HB.out⟩
  · have e0 := str_no h0
    rw [show decide (mnm = mnm') = false by simpa using h0]
    clear h0
    by_cases h1 : mid = mid'
    · subst h1
      rw [show (mid == mid) = true by simp]
      go_enter Tryz.func105, Tryz.ntmps105
      go_wp2_with fail
      go_ret
      exact ⟨ret_b (by simp), HB.out⟩
    · have e1 : (mid == mid') = false := by simpa using h1
      rw [e1]
      clear h1
      go_enter Tryz.func105, Tryz.ntmps105
      go_wp2_with fail
      go_ret
      exact ⟨rfl, HB.out⟩
set_option maxHeartbeats 16000000 in
set_option maxRecDepth 100000 in
theorem checkAll_any (a : Option Addr) (n c : Nat) (l : List MsV) (w : World) (hF : IsMsgs w a n c l) (hS : SizesAt w) :
    Calls Tryz.prog 62 #[.slice a n c] w fun e w' => e = .returned (.int .i64 (chkA l)) ∧ Below w.heap.size w w' := by
  have hlen := hF.row.len
  have hn63 : (n : Int) ≤ 9223372036854775807 := by have h1 := hF.row.le; have h2 := hF.row.max; unfold maxLen at h2; omega
  have HF := Hid.mk hF
  have hR : chkA l = if 20 < n then 2 else firstE (allE l) n := by unfold chkA; rw [hlen]
  rw [hR]
  have HCK := Hid.mk (fun i (hi : i < n) W (hb : Below w.heap.size w W) => mcheck_any (l.getD i noM) W ((hF.each _ (hF.mem hi)).kept hb) (hS.kept hb))
  have HCL := Hid.mk (fun i (hi : i ≤ n) g v W (hb : Below w.heap.size w W) (hg : MsAt W g v) => containsFuncMs 105 #[.pointer (some ⟨g, 0, none⟩)] enter_clash (fun x => clB x.m v.m) a i c (l.take i) W ((hF.kept hb).take hi) (fun W' x hb' _ => clash_any x v g W' (hg.kept hb')))
  have HG : Hid (∀ i, allE l i = if chkM (l.getD i noM).m = 0 then (if ((l.take i).any fun a => clB a.m (l.getD i noM).m) = true then 9 else 0) else chkM (l.getD i noM).m) := Hid.mk (fun i => rfl)
  generalize allE l = G at *
  clear hR hF hS hlen
  by_cases h20 : 20 < n
  · rw [if_pos h20]
    have h20' : (20 : Int) < (n : Int) := by omega
    clear h20
    go_enter Tryz.func62, Tryz.ntmps62
    go_wp2_with fail
    go_ret
    exact ⟨rfl, Below.refl _ _⟩
  · rw [if_neg h20]
    have h20' : (n : Int) ≤ 20 := by omega
    clear h20
    go_enter Tryz.func62, Tryz.ntmps62
    go_wp2_with fail
    go_loopw [12] (fun i wr => ∃ k : Nat, k ≤ n ∧ i = .int .i64 k ∧ Hid (firstE G k = 0) ∧ Hid (Below w.heap.size w wr)) (fun i _ => n - (intOf i).toNat)
    case atStart => exact ⟨0, Nat.zero_le _, rfl, Hid.mk rfl, Hid.mk (Below.refl _ _)⟩
    case round =>
      obtain ⟨k, hk, rfl, HF0, HB⟩ := hrel
      by_cases hlt : k < n
      · have hlt' : (k : Int) < (n : Int) := by omega
        obtain ⟨x, hx⟩ := HF.out.row.some hlt
        subst hx
        have hAt := (HF.out.kept HB.out).at hlt
        have HBX := Hid.mk (ms_box wr (l.getD k noM))
        have HBA := Hid.mk (MsAt.box wr (l.getD k noM))
        have HC := Hid.mk (HCK.out k hlt)
        have HL := Hid.mk (fun g W hb hg => HCL.out k hk g (l.getD k noM) W hb hg)
        have hGk := HG.out k
        generalize (l.take k).any (fun a => clB a.m (l.getD k noM).m) = AN at *
        generalize l.getD k noM = v at *
        generalize chkM v.m = E at *
        obtain ⟨⟨mid, mlo, mnm, size, mch, sigs⟩, ma, mn, mcap⟩ := v
        obtain ⟨c0, c1, c2, c3, c4, c5⟩ := hAt
        unfold msC at HBX HBA
        unfold msV at HC
        simp only at HBX HBA HC HL c0 c1 c2 c3 c4 c5
        have HGk := Hid.mk hGk
        have hle := HF.out.row.le
        have hkc : k ≤ c := by omega
        have hkc' : (k : Int) ≤ (c : Int) := by omega
        clear hGk hle
        by_cases hE : E = 0
        · subst hE
          have HG2 : Hid (G k = if AN = true then 9 else 0) := Hid.mk (by
            have h9 := HGk.out
            simp only [if_true] at h9
            exact h9)
          clear HGk
          go_wp2_with fail
          refine (HC.out _ (bl2 HB.out HBX.out)).mono ?_
          rintro e w1 ⟨rfl, hb1⟩
          have HB1 := Hid.mk (bl2 HB.out (bl2 HBX.out hb1))
          have HA1 := Hid.mk (HBA.out.kept hb1)
          clear hb1 c0 c1 c2 c3 c4 c5
          go_wp2_with fail
          refine (HL.out _ _ HB1.out HA1.out).mono ?_
          rintro e w2 ⟨rfl, hb2⟩
          have HB2 := Hid.mk (bl2 HB1.out hb2)
          clear hb2
          cases AN with
          | true =>
            go_wp2_with fail
            go_ret
            exact ⟨by rw [firstE_hit HF0.out (by rw [HG2.out]; decide) hlt, HG2.out]; rfl, HB2.out⟩
          | false =>
            go_wp2_with fail
            go_roundw
            case rel => exact ⟨k + 1, by omega, by go_num, Hid.mk (firstE_step HF0.out (by rw [HG2.out]; rfl)), HB2⟩
            case measure => simp [intOf]; omega
        · have hne : (E != 0) = true := by simpa using hE
          have HV : Hid (G k = E) := Hid.mk (by rw [HGk.out, if_neg hE])
          have HE := Hid.mk hE
          clear hE HGk
          go_wp2_with fail
          refine (HC.out _ (bl2 HB.out HBX.out)).mono ?_
          rintro e w1 ⟨rfl, hb1⟩
          have HB1 := Hid.mk (bl2 HB.out (bl2 HBX.out hb1))
          clear hb1
          go_wp2_with fail
          go_ret
          exact ⟨by rw [firstE_hit HF0.out (by rw [HV.out]; exact HE.out) hlt, HV.out]; rfl, HB1.out⟩
      · have e : k = n := by omega
        subst e
        go_wp2_with fail
        go_ret
        exact ⟨by rw [HF0.out]; rfl, HB.out⟩
end Bw
end Go.Proofs.YtlnkhlifkooohaaGreatDoor
