/- What package message's choosesWell answers, whole. -/
import Derived.Test.YtgjkioknnjbjfaaDoorMgWell
namespace Go.Proofs.YtgjkioknnjbjfaaDoor
open Go.ChangeShapes Go.WideShapes Go.ChangeAt Go.RowKit
namespace Bw
open Sm
theorem enter_above : ∀ args w, (callFunc 50 args).run Tryd.prog w = .ok (.enter 50 args) w := enters_of Tryd.func50 (by kernel_rfl) rfl
/-- the last call of choosesWell -/
theorem well_last (v : MsV) (g : Nat) (most : Int) (w W : World) (hM : MsIn w v) (hb : Below w.heap.size w W) (hg : W.cell? ⟨g, 0, none⟩ = some (.int .i64 most)) :
    Calls Tryd.prog 49 #[.slice v.a v.n v.cap, .func (.func 50) #[] #[.pointer (some ⟨g, 0, none⟩)]] W fun e w' => e = .returned (.bool (v.m.sigs.any fun s => decide (most < s.ky))) ∧ Below W.heap.size W w' :=
  containsFuncSg _ _ enter_above (fun s => decide (most < s.ky)) _ _ _ _ W (hM.row.kept hb) (fun W' x hb' _ => above_any x g most W' (cell_kept hb' hg))
set_option maxHeartbeats 8000000 in
set_option maxRecDepth 100000 in
theorem well_none (v : MsV) (w : World) (hM : MsIn w v) (h0 : v.m.ch < 0) :
    Calls Tryd.prog 23 #[msV v] w fun e w' => e = .returned (.bool (!(v.m.sigs.any fun s => decide (-1 < s.ky)))) ∧ Below w.heap.size w w' := by
  have HBX := Hid.mk (ms_box w v)
  have HA1 := Hid.mk (bl2 HBX.out (awB1 (w.alloc (msC v)) (.cells #[.int .i64 (-1)] 3)))
  have hS : (w.alloc (msC v)).heap.size = w.heap.size + 1 := by simp
  have hnew := cw_new (w.alloc (msC v)) (-1)
  rw [hS] at hnew
  have HL := Hid.mk (well_last v (w.heap.size + 1) (-1) w _ hM HA1.out hnew)
  generalize (v.m.sigs.any fun s => decide (-1 < s.ky)) = R at *
  obtain ⟨⟨mid, mlo, mnm, size, mch, sigs⟩, ma, mn, mcap⟩ := v
  unfold msC at HBX HA1 HL
  unfold msV
  simp only at HBX HA1 HL h0 ⊢
  clear hM hnew hS
  go_enter Tryd.func23, Tryd.ntmps23
  go_wp2_with fail
  refine HL.out.mono ?_
  rintro e w1 ⟨rfl, hb1⟩
  have HB1 := Hid.mk (bl2 HA1.out hb1)
  clear hb1
  go_wp2_with fail
  go_ret
  exact ⟨rfl, HB1.out⟩
set_option maxHeartbeats 8000000 in
set_option maxRecDepth 100000 in
theorem well_some (v : MsV) (w : World) (hM : MsIn w v) (h0 : 0 ≤ v.m.ch) (h1 : v.m.ch < (v.m.sigs.length : Int)) (hC : chooB (v.m.at v.m.ch.toNat) = true) (hz1 : 1 ≤ (v.m.at v.m.ch.toNat).sz) :
    Calls Tryd.prog 23 #[msV v] w fun e w' => e = .returned (.bool (!(v.m.sigs.any fun s => decide (mostI v.m < s.ky)))) ∧ Below w.heap.size w w' := by
  have HBX := Hid.mk (ms_box w v)
  have hlen : v.m.sigs.length = v.n := hM.row.len
  obtain ⟨c, hc⟩ : ∃ c : Nat, v.m.ch = c := ⟨v.m.ch.toNat, by omega⟩
  have hcn : c < v.n := by omega
  have hmost : mostI v.m = ((2 ^ (v.m.at c).sz.toNat : Nat) : Int) - 1 := by unfold mostI; rw [if_pos h0, hc, Int.toNat_natCast]
  rw [hc, Int.toNat_natCast] at hC hz1
  rw [hmost]
  obtain ⟨x, hx⟩ := hM.row.some hcn
  have hr := hM.row
  rw [hx] at hr
  have hA1 := awB1 (w.alloc (msC v)) (.cells #[.int .i64 (-1)] 3)
  have HA1 := Hid.mk (bl2 HBX.out hA1)
  have hS := (hr.kept HA1.out).at hcn
  have e9 : v.m.sigs.getD c noS = v.m.at c := rfl
  rw [e9] at hS
  have hz8 : (v.m.at c).sz ≤ 8 := by
    unfold chooB at hC
    simp only [Bool.and_eq_true, decide_eq_true_eq] at hC
    exact hC.2.2
  have hky : (v.m.at c).ky < 0 := by
    unfold chooB at hC
    simp only [Bool.and_eq_true, decide_eq_true_eq] at hC
    exact hC.2.1
  have hsgn : (v.m.at c).sg = false := by
    unfold chooB at hC
    simp only [Bool.and_eq_true] at hC
    simpa using hC.1
  obtain ⟨z, hz⟩ : ∃ z : Nat, (v.m.at c).sz = z := ⟨(v.m.at c).sz.toNat, by omega⟩
  have hpow := pow8 (n := z) (by omega)
  have HSB := Hid.mk (fun W => sg_box W (v.m.at c))
  have HLL := Hid.mk (fun g most W hb hg => well_last v g most w W hM hb hg)
  rw [hz, Int.toNat_natCast]
  rw [hz] at hz1 hz8
  clear e9 hr hC hmost
  have hm1 : (w.alloc (msC v)).heap.size = w.heap.size + 1 := by simp
  have hnew := heap_alloc_new (w.alloc (msC v)) (.cells #[.int .i64 (-1)] 3)
  rw [hm1] at hnew
  generalize v.m.at c = s at *
  obtain ⟨nm, st, sz, bk, sg, mu, di, ad, ky⟩ := s
  obtain ⟨⟨mid, mlo, mnm, size, mch, sigs⟩, ma, mn, mcap⟩ := v
  simp only at hc hx hcn hlen hz hky hsgn
  subst hc
  subst hx
  subst hz
  subst hsgn
  obtain ⟨s0, s1, s2, s3, s4, s5, s6, s7, s8⟩ := hS
  unfold msC at HBX HA1 s0 s1 s2 s3 s4 s5 s6 s7 s8 hnew
  unfold sgC at HSB
  unfold msV
  simp only at HBX HA1 HSB s0 s1 s2 s3 s4 s5 s6 s7 s8 hnew HLL ⊢
  have hcn' : (c : Int) < (mn : Int) := by omega
  have hcn0 : (0 : Int) ≤ (c : Int) := by omega
  have hz0 : (0 : Int) ≤ (z : Int) := by omega
  obtain ⟨K, hK⟩ : ∃ K : Int, K = ((2 ^ z : Nat) : Int) := ⟨_, rfl⟩
  have hK1 : (2 : Int) ^ z = K := by rw [hK]; simp
  have hK0 : 0 ≤ K := by rw [hK]; exact Int.natCast_nonneg _
  have hK8 : K ≤ 256 := by rw [hK]; exact Int.ofNat_le.2 hpow
  have e1 : wrap64 ((2 : Int) ^ z) = K := by
    rw [hK1]
    clear hK hK1
    unfold wrap64
    omega
  have e2 : wrap64 (K - 1) = K - 1 := by
    clear hK hK1 e1
    unfold wrap64
    omega
  rw [← hK]
  have hm2 : ((w.alloc (.cells #[.int .i64 mid, .bool mlo, .string mnm, .int .i64 size, .int .i64 (c : Int), .slice (some x) mn mcap] 28)).alloc (.cells #[.int .i64 (K - 1)] 3)).cell? ⟨w.heap.size + 1, 0, none⟩ = some (.int .i64 (K - 1)) := by
    have := cw_new (w.alloc (.cells #[.int .i64 mid, .bool mlo, .string mnm, .int .i64 size, .int .i64 (c : Int), .slice (some x) mn mcap] 28)) (K - 1)
    rw [show (w.alloc (.cells #[.int .i64 mid, .bool mlo, .string mnm, .int .i64 size, .int .i64 (c : Int), .slice (some x) mn mcap] 28)).heap.size = w.heap.size + 1 by simp] at this
    exact this
  have hA2 := bl2 HBX.out (awB1 _ (.cells #[.int .i64 (K - 1)] 3))
  have HA3 := Hid.mk (bl2 hA2 (HSB.out _))
  have HL := Hid.mk (HLL.out (w.heap.size + 1) (K - 1) _ HA3.out (cell_kept (HSB.out _) hm2))
  clear hM h0 h1 hlen hA1 hm1 hm2 hA2 hK1 hK HLL hnew hpow
  generalize (sigs.any fun s => decide (K - 1 < s.ky)) = R at *
  go_enter Tryd.func23, Tryd.ntmps23
  go_wp2_with fail
  refine HL.out.mono ?_
  rintro e w1 ⟨rfl, hb1⟩
  have HB1 := Hid.mk (bl2 HA3.out hb1)
  clear hb1
  go_wp2_with fail
  go_ret
  exact ⟨rfl, HB1.out⟩
theorem well_anyM (v : MsV) (w : World) (hM : MsIn w v) (h0 : -1 ≤ v.m.ch) (h1 : v.m.ch < (v.m.sigs.length : Int)) (hS : ∀ i, i < v.m.sigs.length → 1 ≤ (v.m.at i).sz) :
    Calls Tryd.prog 23 #[msV v] w fun e w' => e = .returned (.bool (wellB v.m)) ∧ Below w.heap.size w w' := by
  by_cases hc : v.m.ch < 0
  · have e : wellB v.m = !(v.m.sigs.any fun s => decide (-1 < s.ky)) := by
      unfold wellB mostI
      rw [if_neg (by omega)]
      simp [hc]
    rw [e]
    exact well_none v w hM hc
  · cases hb : chooB (v.m.at v.m.ch.toNat) with
    | false =>
      have e : wellB v.m = false := by
        unfold wellB
        rw [hb]
        simp [hc]
      rw [e]
      exact well_bad v w hM (by omega) h1 hb
    | true =>
      have e : wellB v.m = !(v.m.sigs.any fun s => decide (mostI v.m < s.ky)) := by
        unfold wellB
        rw [hb]
        simp
      rw [e]
      exact well_some v w hM (by omega) h1 hb (hS _ (by omega))
end Bw
end Go.Proofs.YtgjkioknnjbjfaaDoor
