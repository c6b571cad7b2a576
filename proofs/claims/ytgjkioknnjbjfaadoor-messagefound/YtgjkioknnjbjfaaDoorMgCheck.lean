/- What message.Check answers. -/
import Derived.Test.YtgjkioknnjbjfaaDoorMgWellA
namespace Go.Proofs.YtgjkioknnjbjfaaDoor
open Go.ChangeShapes Go.WideShapes Go.ChangeAt Go.RowKit
namespace Bw
open Sm
theorem sz_one {s : Sig} {n : Int} (h : chkS s n = 0) : 1 ≤ s.sz := by
  obtain ⟨_, _, h3, _⟩ := chk_size h
  unfold numB at h3
  rw [Bool.and_eq_true] at h3
  exact (inB_iff.1 h3.1).1
set_option maxHeartbeats 16000000 in
set_option maxRecDepth 100000 in
theorem mcheck_any (v : MsV) (w : World) (hM : MsIn w v) (hS : SizesAt w) :
    Calls Tryd.prog 6 #[msV v] w fun e w' => e = .returned (.int .i64 (chkM v.m)) ∧ Below w.heap.size w w' := by
  have HBX := Hid.mk (ms_box w v)
  have HAT := Hid.mk (MsAt.box w v)
  have HN := Hid.mk (fun W => sname_any v.m.nm W hM.nm)
  have HFR := Hid.mk (fun W (h : Below w.heap.size w W) => frCheck_any v.m.id v.m.lo false false 0 none 0 0 W (hS.kept h) (Nat.zero_le _))
  have HSG := Hid.mk (fun W (h : Below w.heap.size w W) (h0 : 0 ≤ v.m.size) (h8 : v.m.size ≤ 8) => checkSignals_any v W (hM.kept h) h0 h8)
  have HWL := Hid.mk (fun W (h : Below w.heap.size w W) (h0 : sigsE v.m = 0) (h1 : -1 ≤ v.m.ch) (h2 : v.m.ch < (v.m.sigs.length : Int)) => well_anyM v W (hM.kept h) h1 h2 (fun i hi => by
    have h3 := firstE_zero h0 i hi
    unfold sigE at h3
    split at h3
    · rename_i h4; exact sz_one h4
    · rename_i h4; exact absurd h3 h4))
  have hlen : v.m.sigs.length = v.n := hM.row.len
  have hn : (v.n : Int) ≤ 9223372036854775807 := by have h1 := hM.row.le; have h2 := hM.row.max; unfold maxLen at h2; omega
  have hR : chkM v.m = (if nameB v.m.nm.data.toList = false then 1
  else if frEn v.m.id v.m.lo false false 0 0 ≠ 0 then frEn v.m.id v.m.lo false false 0 0
  else if v.m.size < 0 ∨ 8 < v.m.size then 3
  else if 16 < v.n then 2
  else if sigsE v.m ≠ 0 then sigsE v.m
  else if v.m.ch < -1 ∨ (v.n : Int) ≤ v.m.ch then 8
  else if wellB v.m = false then 4 else 0) := by unfold chkM; rw [hlen]
  rw [hR]
  rw [hlen] at HWL
  clear hR hM hS hlen
  generalize nameB v.m.nm.data.toList = NB at *
  generalize frEn v.m.id v.m.lo false false 0 0 = FE at *
  generalize sigsE v.m = SE at *
  generalize wellB v.m = WB at *
  obtain ⟨⟨mid, mlo, mnm, size, mch, sigs⟩, ma, mn, mcap⟩ := v
  unfold msC at HBX HAT
  unfold msV at HSG HWL ⊢
  unfold frameV at HFR
  simp only at HBX HAT HN HFR HSG HWL hn ⊢
  cases NB with
  | false =>
    rw [if_pos rfl]
    go_enter Tryd.func6, Tryd.ntmps6
    go_wp2_with fail
    refine (HN.out _).mono ?_
    rintro e w1 ⟨rfl, hb1⟩
    obtain rfl := hb1.symm
    go_wp2_with fail
    go_ret
    exact ⟨rfl, HBX.out⟩
  | true =>
    rw [if_neg (by simp)]
    by_cases h1 : FE = 0
    case neg =>
      rw [if_pos h1]
      have hne : (FE != 0) = true := by simpa using h1
      clear h1
      go_enter Tryd.func6, Tryd.ntmps6
      go_wp2_with fail
      refine (HN.out _).mono ?_
      rintro e w1 ⟨rfl, hb1⟩
      obtain rfl := hb1.symm
      go_wp2_with fail
      refine (HFR.out _ HBX.out).mono ?_
      rintro e w2 ⟨rfl, hb2⟩
      have HB2 := Hid.mk (bl2 HBX.out hb2)
      clear hb2
      go_wp2_with fail
      go_ret
      exact ⟨rfl, HB2.out⟩
    case pos =>
      subst h1
      rw [if_neg (by simp)]
      by_cases h2 : size < 0 ∨ 8 < size
      · rw [if_pos h2]
        go_enter Tryd.func6, Tryd.ntmps6
        go_wp2_with fail
        refine (HN.out _).mono ?_
        rintro e w1 ⟨rfl, hb1⟩
        obtain rfl := hb1.symm
        go_wp2_with fail
        refine (HFR.out _ HBX.out).mono ?_
        rintro e w2 ⟨rfl, hb2⟩
        have HB2 := Hid.mk (bl2 HBX.out hb2)
        obtain ⟨m0, m1, m2, m3, m4, m5⟩ := HAT.out.kept hb2
        simp only at m0 m1 m2 m3 m4 m5
        clear hb2
        by_cases h3 : size < 0
        · clear h2
          go_wp2_with fail
          go_ret
          exact ⟨rfl, HB2.out⟩
        · have h4 : 8 < size := by omega
          clear h2
          go_wp2_with fail
          go_ret
          exact ⟨rfl, HB2.out⟩
      · rw [if_neg h2]
        have s0 : 0 ≤ size := by omega
        have s8 : size ≤ 8 := by omega
        clear h2
        generalize hRR : (if 16 < mn then (2 : Int) else if SE ≠ 0 then SE else if mch < -1 ∨ (mn : Int) ≤ mch then 8 else if WB = false then 4 else 0) = R
        have HR := Hid.mk hRR
        clear hRR
        go_enter Tryd.func6, Tryd.ntmps6
        go_wp2_with fail
        refine (HN.out _).mono ?_
        rintro e w1 ⟨rfl, hb1⟩
        obtain rfl := hb1.symm
        go_wp2_with fail
        refine (HFR.out _ HBX.out).mono ?_
        rintro e w2 ⟨rfl, hb2⟩
        have HB2 := Hid.mk (bl2 HBX.out hb2)
        have HA2 := Hid.mk (HAT.out.kept hb2)
        obtain ⟨m0, m1, m2, m3, m4, m5⟩ := HA2.out
        simp only at m0 m1 m2 m3 m4 m5
        clear hb2 HFR HN HBX HAT
        by_cases h3 : 16 < mn
        · have HV : Hid (R = 2) := Hid.mk (by rw [← HR.out, if_pos h3])
          have h3' : (16 : Int) < (mn : Int) := by omega
          clear h3
          go_wp2_with fail
          go_ret
          exact ⟨by rw [HV.out]; rfl, HB2.out⟩
        · have HR1 : Hid (R = if SE ≠ 0 then SE else if mch < -1 ∨ (mn : Int) ≤ mch then 8 else if WB = false then 4 else 0) := Hid.mk (by rw [← HR.out, if_neg h3])
          have h3' : (mn : Int) ≤ 16 := by omega
          clear h3
          go_wp2_with fail
          refine (HSG.out _ HB2.out s0 s8).mono ?_
          rintro e w3 ⟨rfl, hb3⟩
          have HB3 := Hid.mk (bl2 HB2.out hb3)
          have HA3 := Hid.mk (HA2.out.kept hb3)
          obtain ⟨m0, m1, m2, m3, m4, m5⟩ := HA3.out
          simp only at m0 m1 m2 m3 m4 m5
          clear hb3 HB2 HA2 HSG
          by_cases h4 : SE = 0
          case neg =>
            have HV : Hid (R = SE) := Hid.mk (by rw [HR1.out, if_pos h4])
            have hne : (SE != 0) = true := by simpa using h4
            clear h4
            go_wp2_with fail
            go_ret
            exact ⟨by rw [HV.out]; rfl, HB3.out⟩
          case pos =>
            subst h4
            have HR2 : Hid (R = if mch < -1 ∨ (mn : Int) ≤ mch then 8 else if WB = false then 4 else 0) := Hid.mk (by rw [HR1.out, if_neg (by simp)])
            clear HR1 HR
            by_cases h5 : mch < -1 ∨ (mn : Int) ≤ mch
            · have HV : Hid (R = 8) := Hid.mk (by rw [HR2.out, if_pos h5])
              clear HR2
              by_cases h6 : mch < -1
              · clear h5
                go_wp2_with fail
                go_ret
                exact ⟨by rw [HV.out]; rfl, HB3.out⟩
              · have h7 : (mn : Int) ≤ mch := by omega
                clear h5
                go_wp2_with fail
                go_ret
                exact ⟨by rw [HV.out]; rfl, HB3.out⟩
            · have HR3 : Hid (R = if WB = false then 4 else 0) := Hid.mk (by rw [HR2.out, if_neg h5])
              clear HR2
              have h6 : -1 ≤ mch := by omega
              have h7 : mch < (mn : Int) := by omega
              clear h5
              go_wp2_with fail
              refine (HWL.out _ HB3.out trivial h6 h7).mono ?_
              rintro e w4 ⟨rfl, hb4⟩
              have HB4 := Hid.mk (bl2 HB3.out hb4)
              clear hb4
              cases WB with
              | true =>
                go_wp2_with fail
                go_ret
                exact ⟨by rw [HR3.out]; rfl, HB4.out⟩
              | false =>
                go_wp2_with fail
                go_ret
                exact ⟨by rw [HR3.out]; rfl, HB4.out⟩
end Bw
end Go.Proofs.YtgjkioknnjbjfaaDoor
