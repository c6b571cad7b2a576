/- What message.fill answers of a message with a Chooser. -/
import Derived.Test.YtgjkioknnjbjfaaDoorMgFill
namespace Go.Proofs.YtgjkioknnjbjfaaDoor
open Go.ChangeShapes Go.WideShapes Go.ChangeAt Go.RowKit Go.Sort
namespace Bw
open Sm
set_option maxHeartbeats 32000000 in
set_option maxRecDepth 100000 in
theorem fill_some (g : Nat) (lb : Array Value) (eg : ∀ args w, (callFunc g args).run Tryd.prog w = .ok (.enter g args) w) (put : PutF) (Iv : World → List ByteArray → Prop) (bm : Nat) (v : MsV) (n8 : Nat) (w : World) (hM : MsIn w v) (hO : OkM v.m) (hsize : v.m.size = n8)
    (hput : ∀ W used s a c d, Iv W used → s ∈ v.m.sigs → s.nm ∉ used → IsBytes W a n8 c d → Calls Tryd.prog g (#[sgV s, .slice a n8 c] ++ lb) W (PutP (put s d) (fun w' => Iv w' (used ++ [s.nm])) bm n8 W))
    (hIv : ∀ W W' used, Iv W used → Below W.heap.size W W' → Iv W' used) (hmap : ∀ W used, Iv W used → ∃ es cl, W.heap[bm]? = some (.map es cl)) (hI : Iv w []) (hch : 0 ≤ v.m.ch) :
    Calls Tryd.prog 38 #[msV v, .func (.func g) #[] lb] w (FillP (fillE put v.m) (fun w' => Iv w' (usedL put v.m)) bm n8 w) := by
  have HBX := Hid.mk (ms_box w v)
  have HMAT := Hid.mk (MsAt.box w v)
  have HPUT := Hid.mk (fun W used k a c d (hk : k < v.n) (hI : Iv W used) (hn : (v.m.at k).nm ∉ used) (hD : IsBytes W a n8 c d) => hput W used (v.m.at k) a c d hI (v.m.mem (by rw [hM.row.len]; exact hk)) hn hD)
  have HIK := Hid.mk hIv
  have HMAP := Hid.mk hmap
  have hent := enter_there
  have hlen : v.m.sigs.length = v.n := hM.row.len
  have hn16 : v.n ≤ 16 := by have := hO.many; omega
  have hn8 : n8 ≤ 8 := by have := hO.size8; omega
  have HT := Hid.mk (fun W a c d (h : GM bm w W) (hD : IsBytes W a n8 c d) => isThere_any v a n8 c d W (hM.keptC h.ck) hD hO hsize (Nat.le_refl _) (by omega))
  have HROW := Hid.mk hM.row
  have HMA := Hid.mk hM
  have HGD : Hid (∀ i, v.m.at i = v.m.sigs.getD i noS) := Hid.mk (fun _ => rfl)
  have HAP := Hid.mk (fun i j (hi : i < v.n) (hj : j < v.n) (hne : i ≠ j) => hO.apart (by rw [hlen]; exact hi) (by rw [hlen]; exact hj) hne)
  have HYES := Hid.mk (fun c k (_ : k < v.n) (h : othB v.m c k = true) => othK_yes v.m c h)
  have HNO := Hid.mk (fun c k (_ : k < v.n) (h : othB v.m c k = false) => othK_no v.m c h)
  have HMORE := Hid.mk (fun c k (hk : k < v.n) (h : othB v.m c k = true) => othK_more v.m c h hk)
  have HOBD : Hid (∀ c k, othB v.m c k = (!((k : Int) == v.m.ch) && thB c (v.m.at k))) := Hid.mk (fun _ _ => rfl)
  have HOK0 : Hid (∀ c, othK v.m c 0 = []) := Hid.mk (fun _ => rfl)
  have hz0 : zerosM v.m = List.replicate n8 0 := by unfold zerosM; rw [hsize]; rfl
  have hmk : ∀ W : World, (Instr.makeSlice 23 (.int .i64 (n8 : Int)) (.int .i64 (n8 : Int))).run Tryd.prog W = .ok (.slice (some ⟨W.heap.size, 0, none⟩) n8 n8) (W.alloc (.cells (madeCells #[.int .u8 0] n8) 5)) := by
    intro W
    exact run_make_row' 23 5 (.int .u8 0) 1 Tryd.underlying23 info_u8M rfl .i64 .i64 n8 (by omega) (by omega) W
  obtain ⟨c0, hc0⟩ : ∃ c0 : Nat, v.m.ch = c0 := ⟨v.m.ch.toNat, by omega⟩
  have hc0n : c0 < v.n := by have := hO.ch1; omega
  have hCE : chooE put v.m = put (v.m.at c0) (List.replicate n8 0) := by unfold chooE; rw [if_pos hch, hz0, hc0, Int.toNat_natCast]
  have HRESB : Hid ((put (v.m.at c0) (List.replicate n8 0)).1 ≠ 0 → fillE put v.m = ((put (v.m.at c0) (List.replicate n8 0)).1, [])) := Hid.mk (fun h => by unfold fillE; rw [hCE, if_neg h])
  have HRESA : Hid ((put (v.m.at c0) (List.replicate n8 0)).1 = 0 → fillE put v.m = goE put (othK v.m (choD v.m (put (v.m.at c0) (List.replicate n8 0)).2) v.n) (put (v.m.at c0) (List.replicate n8 0)).2) := Hid.mk (fun h => by unfold fillE; rw [hCE, if_pos h, hlen])
  have HUSED : Hid (usedL put v.m = [(v.m.at c0).nm] ++ (othK v.m (choD v.m (put (v.m.at c0) (List.replicate n8 0)).2) v.n).map Sig.nm) := Hid.mk (by unfold usedL; rw [hCE, if_pos hch, hlen, hc0, Int.toNat_natCast])
  have HU0 : Hid (∀ x ∈ [(v.m.at c0).nm], ∃ j : Nat, (j : Int) = v.m.ch ∧ j < v.n ∧ x = (v.m.at j).nm) := Hid.mk (fun x hx => ⟨c0, hc0.symm, hc0n, by simpa using hx⟩)
  have HB0 := Hid.mk (fl_W0 w v n8)
  have HG0 := Hid.mk (GM.below (hmap _ _ hI) HB0.out)
  have HP0 := Hid.mk (hput _ [] (v.m.at c0) _ _ _ (hIv _ _ _ hI HB0.out) (v.m.mem (by omega)) (by simp) (fl_W0z w v n8 hn8))
  have HMA0 := Hid.mk (fl_W0m w v n8)
  obtain ⟨x0, hx0⟩ := hM.row.some hc0n
  have hr := hM.row
  rw [hx0] at hr
  have hSg0 := (hr.kept HB0.out).at hc0n
  have e9 : v.m.sigs.getD c0 noS = v.m.at c0 := rfl
  rw [e9] at hSg0
  obtain ⟨PD0, hPD0⟩ : ∃ p, p = put (v.m.at c0) (List.replicate n8 0) := ⟨_, rfl⟩
  rw [← hPD0] at HRESB HRESA HUSED HP0
  obtain ⟨CHO, hCHO⟩ : ∃ c, c = choD v.m PD0.2 := ⟨_, rfl⟩
  rw [← hCHO] at HRESA HUSED
  obtain ⟨DA, hDA⟩ : ∃ D, D = PD0.2 := ⟨_, rfl⟩
  rw [← hDA] at HRESA hCHO
  have HT2 : Hid (∀ W a c, GM bm w W → IsBytes W a n8 c DA → Calls Tryd.prog 35 #[msV v, .slice a n8 c] W fun e w' => ∃ g, e = .returned (.func (.func 58) #[] #[.pointer (some ⟨g, 0, none⟩)]) ∧ w'.cell? ⟨g, 0, none⟩ = some (.int .i64 CHO) ∧ W.heap.size ≤ g ∧ Below W.heap.size W w') := Hid.mk (fun W a c h1 h2 => by
    have := HT.out W a c DA h1 h2
    rw [← hCHO] at this
    exact this)
  clear HT
  have HT : Hid (∀ W a c, GM bm w W → IsBytes W a n8 c DA → Calls Tryd.prog 35 #[msV v, .slice a n8 c] W fun e w' => ∃ g, e = .returned (.func (.func 58) #[] #[.pointer (some ⟨g, 0, none⟩)]) ∧ w'.cell? ⟨g, 0, none⟩ = some (.int .i64 CHO) ∧ W.heap.size ≤ g ∧ Below W.heap.size W w') := Hid.mk (fun W a c h1 h2 => HT2.out W a c h1 h2)
  have HDA := Hid.mk hDA
  obtain ⟨U0, hU0⟩ : ∃ U : List ByteArray, U = [(v.m.at c0).nm] := ⟨_, rfl⟩
  have hne0 : ([] : List ByteArray) ++ [(v.m.at c0).nm] = U0 := by rw [hU0]; rfl
  rw [← hU0] at HUSED HU0
  rw [hne0] at HP0
  clear HT2 hDA hU0 hCHO hCE hz0 hM hO hput hIv hmap hI hPD0 e9 hr hne0
  generalize fillE put v.m = FE at *
  generalize usedL put v.m = UL at *
  generalize hOK : othK v.m = OK at *
  generalize hOB : othB v.m = OB at *
  generalize hS : v.m.at = S at *
  clear hOK hOB hS
  have HSC : Hid (∃ y, y = S c0) := Hid.mk ⟨_, rfl⟩
  obtain ⟨sc, hsc⟩ := HSC.out
  rw [← hsc] at hSg0 HP0
  clear hsc HSC
  obtain ⟨nm0, st0, sz0, bk0, sg0, mu0, di0, ad0, ky0⟩ := sc
  obtain ⟨⟨mid, mlo, mnm, size, mch, sigs⟩, ma, mn, mcap⟩ := v
  simp only at hsize hch hc0 hx0 hc0n
  subst hsize
  subst hc0
  subst hx0
  unfold msC at HBX HMAT HB0 HG0 HMA0 HP0 hSg0
  unfold msV at HT ⊢
  unfold sgV at HP0
  obtain ⟨z0, z1, z2, z3, z4, z5, z6, z7, z8⟩ := hSg0
  simp only at HBX HMAT HB0 HG0 HMA0 HP0 HT HMA HROW HGD HAP HYES HNO HMORE HOBD HRESA HRESB HUSED HU0 hn16 z0 z1 z2 z3 z4 z5 z6 z7 z8 hc0n ⊢
  have hcc : (c0 : Int) < (mn : Int) := by omega
  have hcc0 : (0 : Int) ≤ (c0 : Int) := by omega
  obtain ⟨m0, m1, m2, m3, m4, m5⟩ := HMA0.out
  simp only at m0 m1 m2 m3 m4 m5
  go_enter Tryd.func38, Tryd.ntmps38
  go_wp2_with (go_at_fn g; refine HP0.out.mono ?_; (rintro e w3 ⟨HG3a, ⟨u, rfl, hne⟩ | ⟨a3, c3, rfl, HR3⟩⟩ <;> (obtain ⟨m0, m1, m2, m3, m4, m5⟩ := HMA0.out.keptC HG3a.out.ck; simp only at m0 m1 m2 m3 m4 m5)))
  · go_ret2
    refine ⟨HG0.out.trans HG3a.out, .inl ?_⟩
    have hne1 : PD0.1 ≠ 0 := by simpa using hne
    rw [HRESB.out hne1]
    exact ⟨hne1, rfl⟩
  have HGA := Hid.mk (HG0.out.trans HG3a.out)
  have HMA4 := Hid.mk (HMA0.out.keptC HG3a.out.ck)
  obtain ⟨m0, m1, m2, m3, m4, m5⟩ := HMA4.out
  simp only at m0 m1 m2 m3 m4 m5
  have HRES := Hid.mk (HRESA.out HR3.out.1)
  have hB3 := HR3.out.2.1
  rw [← HDA.out] at hB3
  have HBA := Hid.mk hB3
  have HIA := Hid.mk HR3.out.2.2
  clear hB3 HRESA HRESB
  refine (HT.out _ _ _ HGA.out HBA.out).mono ?_
  rintro e w4 ⟨gt, rfl, hgt, hgb, hb4⟩
  have HB4 := Hid.mk hb4
  have HG4 := Hid.mk (HGA.out.trans (GM.below (HMAP.out _ _ HIA.out) hb4))
  have HD4 := Hid.mk (isBytes_below HBA.out hb4)
  have HI4 := Hid.mk (HIK.out _ _ _ HIA.out hb4)
  have HM4 := Hid.mk (HMA.out.keptC HG4.out.ck)
  have HGT := Hid.mk hgt
  obtain ⟨m0, m1, m2, m3, m4, m5⟩ := HMA4.out.kept hb4
  have HMA5 := Hid.mk (HMA4.out.kept hb4)
  simp only at m0 m1 m2 m3 m4 m5
  clear hb4 hgt hgb HT
  go_wp2_with fail
  go_loopw [6, 38] (fun u i wr => ∃ k : Nat, k ≤ mn ∧ i = .int .i64 k ∧ ∃ a c dk, u = .slice a n8 c ∧ Hid (IsBytes wr a n8 c dk) ∧ Hid (goE put (OK CHO k) DA = (0, dk)) ∧ Hid (Iv wr (U0 ++ (OK CHO k).map Sig.nm)) ∧ Hid (UsK S (c0 : Int) mn k (U0 ++ (OK CHO k).map Sig.nm)) ∧ Hid (GM bm w4 wr)) (fun _ i _ => mn - (intOf i).toNat)
  case atStart => exact ⟨0, Nat.zero_le _, rfl, _, _, DA, rfl, HD4, Hid.mk (by rw [HOK0.out]; rfl), Hid.mk (by rw [HOK0.out, List.map_nil, List.append_nil]; exact HI4.out), Hid.mk (by rw [HOK0.out, List.map_nil, List.append_nil]; exact UsK.start HU0.out), Hid.mk ⟨⟨rfl, rfl, rfl, Nat.le_refl _, fun _ _ _ => rfl⟩, HMAP.out _ _ HI4.out⟩⟩
  case round =>
    obtain ⟨k, hk, rfl, ak, ck, dk, rfl, HDk, HGk, HIk, HUk, HGM⟩ := hrel
    by_cases hlt : k < mn
    · have hlt' : (k : Int) < (mn : Int) := by omega
      obtain ⟨x, hx⟩ := HROW.out.some hlt
      cases hx
      have hSg := ((HROW.out.keptC HG4.out.ck).keptC HGM.out.ck).at hlt
      rw [← HGD.out] at hSg
      have HBX1 := Hid.mk (sg_box wr (S k))
      have HSAT := Hid.mk (SgAt.box wr (S k))
      have HTH := Hid.mk (fun W (hb : CK wr W) => there_any (S k) gt CHO W (hb _ _ (HGM.out.ck _ _ HGT.out)))
      have HYk := Hid.mk (HYES.out CHO k hlt)
      have HNk := Hid.mk (HNO.out CHO k hlt)
      have HMk := Hid.mk (HMORE.out CHO k hlt)
      have HPk := Hid.mk (fun W used (hI : Iv W used) (hn : (S k).nm ∉ used) (hD : IsBytes W ak n8 ck dk) => HPUT.out W used k ak ck dk hlt hI hn hD)
      have HNU : Hid ((k : Int) ≠ (c0 : Int) → (S k).nm ∉ U0 ++ (OK CHO k).map Sig.nm) := Hid.mk (fun hne => HUk.out.free hlt hne HAP.out)
      have HOB : Hid (OB CHO k = (!((k : Int) == (c0 : Int)) && thB CHO (S k))) := Hid.mk (HOBD.out CHO k)
      have HIk1 := Hid.mk (HIK.out _ _ _ HIk.out HBX1.out)
      have HDk1 := Hid.mk (isBytes_below HDk.out HBX1.out)
      obtain ⟨m0, m1, m2, m3, m4, m5⟩ := (HMA5.out.keptC HGM.out.ck).kept HBX1.out
      simp only at m0 m1 m2 m3 m4 m5
      have HSK : Hid (∃ y, y = S k) := Hid.mk ⟨_, rfl⟩
      obtain ⟨sk, hsk⟩ := HSK.out
      rw [← hsk] at hSg HTH HYk HMk HPk HNU HOB
      simp only [← hsk] at HBX1 HSAT HIk1 HDk1 m0 m1 m2 m3 m4 m5
      have HSKE := Hid.mk hsk
      clear hsk HSK
      generalize thB CHO sk = TH at *
      generalize hput : put sk dk = PD at *
      have HPD := Hid.mk hput
      clear hput
      obtain ⟨nm, st, sz, bk, sg, mu, di, ad, ky⟩ := sk
      unfold sgC at HBX1 HSAT HIk1 HDk1 m0 m1 m2 m3 m4 m5
      unfold sgV at HTH HPk
      simp only at HBX1 HSAT HTH HYk HMk HPk HNU HIk1 HDk1 m0 m1 m2 m3 m4 m5
      obtain ⟨s0, s1, s2, s3, s4, s5, s6, s7, s8⟩ := hSg
      simp only at s0 s1 s2 s3 s4 s5 s6 s7 s8
      by_cases hkc : (k : Int) = (c0 : Int)
      · have HN := Hid.mk (HNk.out (by rw [HOB.out, hkc]; simp))
        have hke : ((k : Int) == (c0 : Int)) = true := by rw [hkc]; simp
        clear hkc
        go_wp2_with fail
        go_roundw
        case rel => exact ⟨k + 1, by omega, by go_num, _, _, dk, rfl, HDk1, by rw [HN.out]; exact HGk, by rw [HN.out]; exact HIk1, Hid.mk (by rw [HN.out]; exact HUk.out.next), Hid.mk (HGM.out.trans (GM.below (HMAP.out _ _ HIk.out) HBX1.out))⟩
        case measure => simp [intOf]; omega
      · have hke : ((k : Int) == (c0 : Int)) = false := beq_false_of_ne hkc
        have HNU1 := Hid.mk (HNU.out hkc)
        clear hkc
        cases TH with
        | false =>
          have HN := Hid.mk (HNk.out (by rw [HOB.out]; simp))
          go_wp2_with (go_at_fn 58; refine (HTH.out _ (CK.below HBX1.out)).mono ?_; rintro e w5 ⟨rfl, hb5⟩; have HB5 := Hid.mk hb5; clear hb5)
          go_roundw
          case rel => exact ⟨k + 1, by omega, by go_num, _, _, dk, rfl, Hid.mk (isBytes_below HDk1.out HB5.out), by rw [HN.out]; exact HGk, by rw [HN.out]; exact Hid.mk (HIK.out _ _ _ HIk1.out HB5.out), Hid.mk (by rw [HN.out]; exact HUk.out.next), Hid.mk (HGM.out.trans (GM.below (HMAP.out _ _ HIk.out) (bl2 HBX1.out HB5.out)))⟩
          case measure => simp [intOf]; omega
        | true =>
          have HYY := Hid.mk (HYk.out (by rw [HOB.out, hke]; rfl))
          have HMM := Hid.mk (HMk.out (by rw [HOB.out, hke]; rfl))
          go_wp2_with (first | (go_at_fn 58; refine (HTH.out _ (CK.below HBX1.out)).mono ?_; rintro e w5 ⟨rfl, hb5⟩; have HB5 := Hid.mk hb5; obtain ⟨s0, s1, s2, s3, s4, s5, s6, s7, s8⟩ := HSAT.out.kept hb5; clear hb5; simp only at s0 s1 s2 s3 s4 s5 s6 s7 s8) | (go_at_fn g; refine (HPk.out _ _ (HIK.out _ _ _ HIk1.out HB5.out) HNU1.out (isBytes_below HDk1.out HB5.out)).mono ?_; rintro e w6 ⟨HG6a, ⟨u, rfl, hne⟩ | ⟨a', c', rfl, HR6⟩⟩))
          · have HG6 := Hid.mk ((HGM.out.trans (GM.below (HMAP.out _ _ HIk.out) (bl2 HBX1.out HB5.out))).trans HG6a.out)
            go_ret2
            refine ⟨HG4.out.trans HG6.out, .inl ?_⟩
            obtain ⟨t, ht⟩ := HMM.out
            have hne1 : PD.1 ≠ 0 := by simpa using hne
            have hfin : goE put (OK CHO mn) DA = (PD.1, []) := by
              rw [ht, goE_fail HGk.out (by rw [HPD.out]; exact hne1), HPD.out]
            rw [HRES.out, hfin]
            exact ⟨hne1, rfl⟩
          · have HG6 := Hid.mk ((HGM.out.trans (GM.below (HMAP.out _ _ HIk.out) (bl2 HBX1.out HB5.out))).trans HG6a.out)
            have HZ := Hid.mk HR6.out.1
            have HB' := Hid.mk HR6.out.2.1
            have HI' := Hid.mk HR6.out.2.2
            go_roundw
            case rel =>
              refine ⟨k + 1, by omega, by go_num, _, _, PD.2, rfl, HB', ?_, ?_, ?_, HG6⟩
              · rw [HYY.out]
                exact Hid.mk (by rw [goE_snoc HGk.out (by rw [HPD.out]; exact HZ.out), HPD.out])
              · rw [HYY.out]
                have := HI'.out
                rw [List.append_assoc] at this
                exact Hid.mk (by rw [List.map_append]; exact this)
              · rw [HYY.out]
                have := HUk.out.snoc hlt
                rw [← HSKE.out, List.append_assoc] at this
                exact Hid.mk (by rw [List.map_append]; exact this)
            case measure => simp [intOf]; omega
    · have e : k = mn := by omega
      subst e
      go_wp2_with fail
      go_ret2
      refine ⟨HG4.out.trans HGM.out, .inr ?_⟩
      rw [HRES.out, HGk.out]
      exact ⟨rfl, _, _, rfl, HDk.out, by rw [HUSED.out]; exact HIk.out⟩
end Bw
end Go.Proofs.YtgjkioknnjbjfaaDoor
