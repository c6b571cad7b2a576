/- What package message's choosesWell answers. -/
import Derived.Test.YtgjkioknnjbjfaaDoorMgSigs
import Derived.Test.YtgjkioknnjbjfaaDoorMgFuncS
namespace Go.Proofs.YtgjkioknnjbjfaaDoor
open Go.ChangeShapes Go.WideShapes Go.ChangeAt Go.RowKit
namespace Bw
open Sm
theorem awB1 (w : World) (o : Obj) : Below w.heap.size w (w.alloc o) := (Below.refl _ _).alloc (Nat.le_refl _) _
theorem cw_new (w : World) (n : Int) : (w.alloc (.cells #[.int .i64 n] 3)).cell? ⟨w.heap.size, 0, none⟩ = some (.int .i64 n) :=
  cell_of_row _ _ 0 _ _ _ (heap_alloc_new w _)
set_option maxHeartbeats 2000000 in
theorem above_any (s : Sig) (g : Nat) (most : Int) (w : World) (hg : w.cell? ⟨g, 0, none⟩ = some (.int .i64 most)) :
    Calls Tryd.prog 50 #[sgV s, .pointer (some ⟨g, 0, none⟩)] w fun e w' => e = .returned (.bool (decide (most < s.ky))) ∧ Below w.heap.size w w' := by
  have HB := Hid.mk (sg_box w s)
  have hg1 := cell_kept HB.out hg
  obtain ⟨nm, st, sz, bk, sg, mu, di, ad, ky⟩ := s
  unfold sgC at HB hg1
  unfold sgV
  simp only at HB hg1 ⊢
  go_enter Tryd.func50, Tryd.ntmps50
  go_wp2_with fail
  go_ret
  exact ⟨rfl, HB.out⟩
theorem pow8 {n : Nat} (h : n ≤ 8) : (2 ^ n : Nat) ≤ 256 := Nat.le_trans (Nat.pow_le_pow_right (by omega) h) (by decide)
set_option maxHeartbeats 8000000 in
set_option maxRecDepth 100000 in
theorem well_bad (v : MsV) (w : World) (hM : MsIn w v) (h0 : 0 ≤ v.m.ch) (h1 : v.m.ch < (v.m.sigs.length : Int)) (hC : chooB (v.m.at v.m.ch.toNat) = false) :
    Calls Tryd.prog 23 #[msV v] w fun e w' => e = .returned (.bool false) ∧ Below w.heap.size w w' := by
  have HBX := Hid.mk (ms_box w v)
  have hlen : v.m.sigs.length = v.n := hM.row.len
  obtain ⟨c, hc⟩ : ∃ c : Nat, v.m.ch = c := ⟨v.m.ch.toNat, by omega⟩
  have hcn : c < v.n := by omega
  rw [hc, Int.toNat_natCast] at hC
  obtain ⟨x, hx⟩ := hM.row.some hcn
  have hr := hM.row
  rw [hx] at hr
  have hA1 := awB1 (w.alloc (msC v)) (.cells #[.int .i64 (-1)] 3)
  have HA1 := Hid.mk (bl2 HBX.out hA1)
  have hS := (hr.kept HA1.out).at hcn
  have HSB := Hid.mk (fun W => sg_box W (v.m.at c))
  have e9 : v.m.sigs.getD c noS = v.m.at c := rfl
  rw [e9] at hS
  clear e9 hr
  generalize v.m.at c = s at *
  obtain ⟨nm, st, sz, bk, sg, mu, di, ad, ky⟩ := s
  obtain ⟨⟨mid, mlo, mnm, size, mch, sigs⟩, ma, mn, mcap⟩ := v
  simp only at hc hx hcn hlen
  subst hc
  subst hx
  obtain ⟨s0, s1, s2, s3, s4, s5, s6, s7, s8⟩ := hS
  unfold msC at HBX HA1 s0 s1 s2 s3 s4 s5 s6 s7 s8
  unfold sgC at HSB
  unfold msV
  simp only at HBX HA1 HSB s0 s1 s2 s3 s4 s5 s6 s7 s8 ⊢
  have hcn' : (c : Int) < (mn : Int) := by omega
  have hcn0 : (0 : Int) ≤ (c : Int) := by omega
  unfold chooB at hC
  simp only at hC
  clear hM h0 h1 hlen
  cases sg with
  | true =>
    go_enter Tryd.func23, Tryd.ntmps23
    go_wp2_with fail
    go_ret
    exact ⟨rfl, bl2 HA1.out (HSB.out _)⟩
  | false =>
    by_cases hk : 0 ≤ ky
    · go_enter Tryd.func23, Tryd.ntmps23
      go_wp2_with fail
      go_ret
      exact ⟨rfl, bl2 HA1.out (HSB.out _)⟩
    · have hz : (8 : Int) < sz := by
        have e : decide (ky < 0) = true := by simp; omega
        rw [e] at hC
        simp at hC
        omega
      clear hC
      go_enter Tryd.func23, Tryd.ntmps23
      go_wp2_with fail
      go_ret
      exact ⟨rfl, bl2 HA1.out (HSB.out _)⟩
end Bw
end Go.Proofs.YtgjkioknnjbjfaaDoor
