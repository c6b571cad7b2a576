/- Joined out of our texts: FrBits, EachBits, AppTwo, WSend1, WSend2, OnlyInt, TchKit, TakeV. -/
import Derived.Test.YtdhmjbnpdmneiadDoorLawWireWinsPAD
import Derived.Test.YtdhmjbnpdmneiadDoorLawWireWinsPAE
import Derived.WalkKit
import Derived.OwnWalk
import Derived.OneCell
import Derived.Laws.AppendOwn
import Derived.Test.YtdhmjbnpdmneiadDoorLawWireWinsPAA
/- What frame.Bits answers of any frame. -/
namespace Go.Proofs.YtdhmjbnpdmneiadDoor
open Go.ChangeShapes Go.WideShapes Go.ChangeAt Go.RowKit
namespace Bw
open Bm Cm

def bitsA (f : Fr) : Value := if frE f = 0 then .tuple #[.string ⟨(bitsL f).toArray⟩, .int .i64 0] else .tuple #[.string ⟨#[]⟩, .int .i64 (frE f)]
set_option maxHeartbeats 4000000 in
theorem frBits_bad (f : Fr) (a : Option Addr) (len cap : Nat) (w : World) (hS : SizesAt w) (hl : len ≤ maxLen) (hd : f.dt.length = len) (hE : frE f ≠ 0) :
    Calls Tryd.prog 14 #[frameV f.id f.lo f.fa f.re f.sz a len cap] w fun e w' => e = .returned (.tuple #[.string ⟨#[]⟩, .int .i64 (frE f)]) ∧ Below w.heap.size w w' := by
  have hB := below_box w f.id f.lo f.fa f.re f.sz a len cap
  have hck := frCheck_any f.id f.lo f.fa f.re f.sz a len cap _ (hS.kept hB) hl
  have hE' : frEn f.id f.lo f.fa f.re f.sz len = frE f := by unfold frE; rw [hd]
  rw [hE'] at hck
  unfold frameC at hB hck
  unfold frameV at hck ⊢
  have HCK := Hid.mk hck
  have hne : (frE f != 0) = true := by simpa using hE
  clear hS hl hd hck hE' hE
  generalize frE f = ce at *
  go_enter Tryd.func14, Tryd.ntmps14
  go_wp2_with fail
  refine HCK.out.mono ?_
  rintro e w1 ⟨rfl, hb1⟩
  have hbel1 := bl2 hB hb1
  clear hB hb1
  go_wp2_with fail
  go_ret2
  exact ⟨rfl, hbel1⟩
set_option maxHeartbeats 8000000 in
theorem frBits_ok (f : Fr) (a : Option Addr) (len cap : Nat) (w : World) (hS : SizesAt w) (hR : RulesAt w) (hr : IsBytes w a len cap f.dt) (hE : frE f = 0) :
    Calls Tryd.prog 14 #[frameV f.id f.lo f.fa f.re f.sz a len cap] w fun e w' => e = .returned (.tuple #[.string ⟨(bitsL f).toArray⟩, .int .i64 0]) ∧ Below w.heap.size w w' := by
  obtain ⟨e1, e2, e3, e4, e5, e6, e7, e8, e9⟩ := frE_ok hE
  have hdl : f.dt.length = len := hr.1
  have hB := below_box w f.id f.lo f.fa f.re f.sz a len cap
  have hK := FrAt.box w f.id f.lo f.fa f.re f.sz a len cap
  have hck := frCheck_any f.id f.lo f.fa f.re f.sz a len cap _ (hS.kept hB) (by unfold maxLen; omega)
  have hE' : frEn f.id f.lo f.fa f.re f.sz len = 0 := by rw [← hE]; unfold frE; rw [hdl]
  rw [hE'] at hck
  have hhd := fun W hW hBy => head_any f a len cap W hW hE hBy
  have hHr := headL_row f
  have hHn := (headL_le f e7).2
  have hH1 := (headL_le f e7).1
  have hHl := mk_list (headL f)
  generalize ByteArray.mk (headL f).toArray = H at *
  have hHs : H.size = (headL f).length := ba_size hHl
  have hHc : checkE H.data.toList = 0 := checkE_row (by rw [hHl]; exact hHr) (by simp; omega)
  unfold frameC at hB hK hck
  unfold frameV at hhd hck ⊢
  have HCK := Hid.mk hck
  have H1 := Hid.mk hhd
  have HK := Hid.mk hK
  have HS := Hid.mk (hS.kept hB)
  have HR := Hid.mk (hR.kept hB)
  have HB := Hid.mk (isBytes_below hr hB)
  have hHz : H.size ≤ 553 := by omega
  have hlen : len ≤ 64 := by omega
  cases hfa : f.fa
  · have hbl : bitsL f = putF (headL f ++ sumL 0 (headL f)) ++ onesL := by unfold bitsL; rw [hfa]; rfl
    have hso := fun W hW => sum_ok 0 H W hW hHc (by omega)
    rw [hHl] at hso
    have hSl := mk_list (sumL 0 (headL f))
    have hSn := sumL_len 0 (headL f)
    have hSr := sumL_row 0 (headL f)
    generalize sumL 0 (headL f) = sl at *
    generalize ByteArray.mk sl.toArray = S at *
    have hk0 : kS 0 = 15 := rfl
    have hSz : S.size ≤ 15 := by rw [ba_size hSl, hSn, hk0]; exact Nat.le_refl _
    obtain ⟨Y, hY⟩ : ∃ Y, Y = H ++ S := ⟨_, rfl⟩
    have hYl : Y.data.toList = headL f ++ sl := by rw [hY, ba_cat, hHl, hSl]
    have hYs : Y.size = (headL f).length + sl.length := by rw [ba_size hYl, List.length_append]
    have hpu := fun W => put_ok Y W (checkE_row (by rw [hYl, rowB_append, hHr, hSr]; rfl) (by simp; omega))
    rw [hYl] at hpu
    have hPl := mk_list (putF (headL f ++ sl))
    have hPn := putF_len2 (headL f ++ sl)
    rw [List.length_append] at hPn
    simp only [hY] at hpu
    generalize putF (headL f ++ sl) = pl at *
    generalize ByteArray.mk pl.toArray = P at *
    have hPz : P.size ≤ 1200 := by rw [ba_size hPl]; omega
    have H2 := Hid.mk hso
    have H3 := Hid.mk hpu
    have HPL := Hid.mk hPl
    have HBL := Hid.mk hbl
    rw [hfa] at H1 HK hB HCK HS HR HB
    clear hhd hHr hHn hH1 hHl hHs hK hS hR hr hbl hso hSl hSn hSr hk0 hYl hYs hpu hPl hPn e1 e2 e3 e4 e5 e6 e7 e8 e9 hE hdl hY hHc hck hE'
    go_enter Tryd.func14, Tryd.ntmps14
    go_wp2_with fail
    refine HCK.out.mono ?_
    rintro e w0 ⟨rfl, hb0⟩
    have hbel0 := bl2 hB hb0
    obtain ⟨k0, k1, k2, k3, k4, k5⟩ := HK.out.kept hb0
    have HK0 := Hid.mk (HK.out.kept hb0)
    have HS0 := Hid.mk (HS.out.kept hb0)
    have HR0 := Hid.mk (HR.out.kept hb0)
    have HB0 := Hid.mk (isBytes_below HB.out hb0)
    clear hB hb0 HK HS HR HB HCK
    go_wp2_with fail
    refine (H1.out _ HS0.out HB0.out).mono ?_
    rintro e w1 ⟨rfl, hb1⟩
    have hbel1 := bl2 hbel0 hb1
    have j2 := (HK0.out.kept hb1).c2
    have HR1 := Hid.mk (HR0.out.kept hb1)
    clear hb1 hbel0 k0 k1 k2 k3 k4 k5 HK0 HS0 HR0 HB0 H1
    go_wp2_with fail
    refine (H2.out _ HR1.out).mono ?_
    rintro e w2 ⟨rfl, hb2⟩
    have hbel2 := bl2 hbel1 hb2
    clear hb2 hbel1 j2
    go_wp2_with fail
    refine (H3.out _).mono ?_
    rintro e w3 ⟨rfl, hb3⟩
    have hbel3 := bl2 hbel2 hb3
    clear hb3 hbel2
    go_wp2_with fail
    go_ret2
    exact ⟨ret_str2 (by rw [HBL.out, ba_cat, HPL.out]; rfl), hbel3⟩
  · have hbl : bitsL f = putF (headL f) ++ fastL (headL f) (putF (headL f)) f.dt.length ++ onesL := by unfold bitsL; rw [hfa]; rfl
    rw [fastL_fixed, hdl] at hbl
    have hpu := fun W => put_ok H W hHc
    rw [hHl] at hpu
    have hPl := mk_list (putF (headL f))
    have hPr := putF_row (headL f) hHr
    obtain ⟨kk, hk1, hk2⟩ := putF_most (headL f) hHr
    generalize hpp : putF (headL f) = pl at *
    generalize ByteArray.mk pl.toArray = P at *
    have hPs : P.size = pl.length := ba_size hPl
    have hPz : P.size ≤ 900 := by omega
    have hfe := fun W hW => fixedPart_any P (pl.length - (headL f).length) len W hW (by omega) (by omega) (by rw [hPl]; exact hPr) (by omega)
    rw [hPl] at hfe
    have hq : ((pl.length - (headL f).length : Nat) : Int) = (P.size : Int) - (H.size : Int) := by omega
    simp only [hq] at hfe
    have hFl := mk_list (fixedL pl (pl.length - (headL f).length) len)
    have hFn : (fixedL pl (pl.length - (headL f).length) len).length ≤ 32 := by rw [fixedL_len]; split <;> omega
    generalize fixedL pl (pl.length - (headL f).length) len = fl at *
    generalize ByteArray.mk fl.toArray = F at *
    have hFz : F.size ≤ 32 := by rw [ba_size hFl]; exact hFn
    have hHP : (H.size : Int) ≤ (P.size : Int) := by omega
    have H2 := Hid.mk hpu
    have H3 := Hid.mk hfe
    have HPL := Hid.mk hPl
    have HFL := Hid.mk hFl
    have HBL := Hid.mk hbl
    rw [hfa] at H1 HK hB HCK HS HR HB
    clear hhd hHr hHn hH1 hHl hHs hK hS hR hr hbl hpu hPl hPr hk1 hk2 hpp hPs hfe hFl hFn e1 e2 e3 e4 e5 e6 e7 e8 e9 hE hdl hHc hck hE' hq
    go_enter Tryd.func14, Tryd.ntmps14
    go_wp2_with fail
    refine HCK.out.mono ?_
    rintro e w0 ⟨rfl, hb0⟩
    have hbel0 := bl2 hB hb0
    obtain ⟨k0, k1, k2, k3, k4, k5⟩ := HK.out.kept hb0
    have HK0 := Hid.mk (HK.out.kept hb0)
    have HS0 := Hid.mk (HS.out.kept hb0)
    have HR0 := Hid.mk (HR.out.kept hb0)
    have HB0 := Hid.mk (isBytes_below HB.out hb0)
    clear hB hb0 HK HS HR HB HCK
    go_wp2_with fail
    refine (H1.out _ HS0.out HB0.out).mono ?_
    rintro e w1 ⟨rfl, hb1⟩
    have hbel1 := bl2 hbel0 hb1
    have j2 := (HK0.out.kept hb1).c2
    have HK1 := Hid.mk (HK0.out.kept hb1)
    have HR1 := Hid.mk (HR0.out.kept hb1)
    clear hb1 hbel0 k0 k1 k2 k3 k4 k5 HK0 HS0 HR0 HB0 H1
    go_wp2_with fail
    refine (H2.out _).mono ?_
    rintro e w2 ⟨rfl, hb2⟩
    have hbel2 := bl2 hbel1 hb2
    have m5 := (HK1.out.kept hb2).c5
    have HR2 := Hid.mk (HR1.out.kept hb2)
    clear hb2 hbel1 j2 HK1 HR1
    go_wp2_with fail
    refine (H3.out _ HR2.out).mono ?_
    rintro e w3 ⟨rfl, hb3⟩
    have hbel3 := bl2 hbel2 hb3
    clear hb3 hbel2 m5
    go_wp2_with fail
    go_ret2
    exact ⟨ret_str2 (by rw [HBL.out, ba_cat, ba_cat, HPL.out, HFL.out]; rfl), hbel3⟩
theorem frBits_any (f : Fr) (a : Option Addr) (len cap : Nat) (w : World) (hS : SizesAt w) (hR : RulesAt w) (hr : IsBytes w a len cap f.dt) :
    Calls Tryd.prog 14 #[frameV f.id f.lo f.fa f.re f.sz a len cap] w fun e w' => e = .returned (bitsA f) ∧ Below w.heap.size w w' := by
  unfold bitsA
  by_cases hE : frE f = 0
  · rw [if_pos hE]; exact frBits_ok f a len cap w hS hR hr hE
  · rw [if_neg hE]; exact frBits_bad f a len cap w hS (by have := hr.2.1; have := hr.2.2.1; omega) hr.1 hE
end Bw
end Go.Proofs.YtdhmjbnpdmneiadDoor

/- What wire.each makes of frames with frame.Bits: the rows of all, or the first error. -/
namespace Go.Proofs.YtdhmjbnpdmneiadDoor
open Go.ChangeShapes Go.WideShapes Go.ChangeAt Go.RowKit
namespace Bw
open Bm Cm
set_option maxHeartbeats 4000000 in
set_option maxRecDepth 100000 in
theorem eachBits_any (a : Option Addr) (n cap : Nat) (l : List FrV) (w : World) (hS : SizesAt w) (hR : RulesAt w) (hF : IsFrames w a n cap l) (hn : n ≤ 6) :
    Calls Tryd.prog 25 #[.slice a n cap, .func (.func 14) #[] #[]] w fun e w' =>
      (firE (l.map (·.f)) ≠ 0 → e = .returned (.tuple #[.slice none 0 0, .int .i64 (firE (l.map (·.f)))])) ∧
      (firE (l.map (·.f)) = 0 → ∃ v, e = .returned (.tuple #[v, .int .i64 0]) ∧ w'.ownsRow w.heap.size 9 1 v n (strC (l.map fun v => bitsL v.f))) ∧ Below w.heap.size w w' := by
  obtain ⟨i0, hi, hz0, hz1, hz2⟩ := info_parts info_str
  have HF := Hid.mk hF
  have HS := Hid.mk hS
  have HR := Hid.mk hR
  clear hF hS hR
  go_enter Tryd.func25, Tryd.ntmps25
  go_wp2_with fail
  go_loopw [6, 13] (fun r i wr => ∃ k : Nat, k ≤ n ∧ i = .int .i64 k ∧ Hid (wr.ownsRow w.heap.size 9 1 r k (strC ((l.take k).map fun v => bitsL v.f))) ∧ Hid (∀ v ∈ l.take k, frE v.f = 0) ∧ Hid (Below w.heap.size w wr)) (fun _ i _ => n - (intOf i).toNat)
  case atStart => exact ⟨0, Nat.zero_le _, rfl, Hid.mk (by simpa [strC] using World.ownsRow_nil _ _ _ _), Hid.mk (by simp), Hid.mk (Below.refl _ _)⟩
  case round =>
    obtain ⟨k, hk, rfl, HO, HZ, HB⟩ := hrel
    by_cases hlt : k < n
    · have hlt' : (k : Int) < (n : Int) := by omega
      have hkl : k < l.length := by rw [HF.out.len]; exact hlt
      cases a with
      | none => exact absurd (HF.out.none rfl) (by omega)
      | some x =>
        have cc := fun (j : Nat) (hj : j < 6) => cell_kept HB.out (HF.out.cell x rfl k hkl j hj)
        have hby := isBytes_below (HF.out.bytes k hkl) (show Below w.heap.size w wr from HB.out)
        have hfir := firE_take l k hkl HZ.out
        have hall := take_all hkl HZ.out
        have htk : strC ((l.take (k + 1)).map fun v => bitsL v.f) = strC ((l.take k).map fun v => bitsL v.f) ++ [.string ⟨(bitsL l[k].f).toArray⟩] := by
          rw [List.take_succ_eq_append_getElem hkl, List.map_append, strC_append]; rfl
        generalize l[k] = v at *
        obtain ⟨f, fa, fl, fc⟩ := v
        have c0 := cc 0 (by omega)
        have c1 := cc 1 (by omega)
        have c2 := cc 2 (by omega)
        have c3 := cc 3 (by omega)
        have c4 := cc 4 (by omega)
        have c5 := cc 5 (by omega)
        rw [add_next] at c1 c2 c3 c4 c5
        rw [Nat.add_zero] at c0
        simp only [FrV.cells, List.getElem_cons_zero, List.getElem_cons_succ, Nat.reduceAdd] at c0 c1 c2 c3 c4 c5
        simp only at hby hfir hall htk
        have hbx := below_box wr f.id f.lo f.fa f.re f.sz fa fl fc
        have hby2 := isBytes_below hby hbx
        have hB2 := bl2 HB.out hbx
        have ha := frBits_any f fa fl fc _ (HS.out.kept hB2) (HR.out.kept hB2) hby2
        have HO2 := Hid.mk (HO.out.alloc (frameC f.id f.lo f.fa f.re f.sz fa fl fc))
        have HB2 := Hid.mk hB2
        have HFI := Hid.mk hfir
        have HAL := Hid.mk hall
        have HTK := Hid.mk htk
        clear cc hfir hall htk hby hby2 hbx hB2
        unfold frameC at ha HO2 HB2
        unfold frameV at ha
        by_cases hE : frE f = 0
        · have hba : bitsA f = .tuple #[.string ⟨(bitsL f).toArray⟩, .int .i64 0] := by unfold bitsA; rw [if_pos hE]
          rw [hba] at ha
          have HA := Hid.mk ha
          have HE := Hid.mk hE
          generalize ByteArray.mk (bitsL f).toArray = X at *
          clear ha hE hba
          go_wp2_with fail
          refine HA.out.mono ?_
          rintro e w1 ⟨rfl, hb1⟩
          have HO1 := Hid.mk (ownsRow_below HO2.out hb1)
          have HB1 := Hid.mk (bl2 HB2.out hb1)
          clear hb1 HO2 HB2 HO HB HA
          go_wp2_with (at_builtin; refine wpList_append_own _ rfl (.tmp 26) (.tmp 28) 27 rfl w.heap.size 9 i0 (.string ⟨#[]⟩) 1 16 Tryd.underlying27 hi hz0 hz1 hz2 rfl (by decide) _ _ _ rfl (HO1.out.alloc _) ⟨w1.heap.size, 0, none⟩ 1 1 [Value.string X] rfl rfl (by intro q u hq; match q, hq with | 0, hq => (simp at hq; subst hq; simp [Addr.add])) (by intro u hu; simp at hu; subst hu; rfl) (by unfold maxLen; omega) (by omega) (by have := HB1.out.size; simp; omega) ?_; intro v3 w3 hown3 hgrow3 _)
          have hB3 : Below w.heap.size w w3 := Below.grown (HB1.out.alloc HB1.out.size _) hgrow3 (by have := HB1.out.size; simp; omega) (fun q hq => (HO1.out.lt q hq).1)
          rw [← HTK.out] at hown3
          clear hgrow3
          go_roundw
          case rel => exact ⟨k + 1, by omega, by go_num, Hid.mk hown3, Hid.mk (HAL.out HE.out), Hid.mk hB3⟩
          case measure => simp [intOf]; omega
        · have hba : bitsA f = .tuple #[.string ⟨#[]⟩, .int .i64 (frE f)] := by unfold bitsA; rw [if_neg hE]
          rw [hba] at ha
          have HA := Hid.mk ha
          have HE := Hid.mk (HFI.out hE)
          have HN := Hid.mk hE
          have hne : (frE f != 0) = true := by simpa using hE
          clear ha hE hba
          generalize frE f = ce at *
          go_wp2_with fail
          refine HA.out.mono ?_
          rintro e w1 ⟨rfl, hb1⟩
          have HB1 := Hid.mk (bl2 HB2.out hb1)
          clear hb1 HO2 HB2 HO HB HA
          go_wp2_with fail
          go_ret2
          exact ⟨fun _ => by rw [HE.out]; rfl, fun h => absurd (HE.out.symm.trans h) HN.out, HB1.out⟩
    · have e : k = n := by omega
      subst e
      have hz := HZ.out
      rw [List.take_of_length_le (by have := HF.out.len; omega)] at hz
      have hfz : firE (l.map (·.f)) = 0 := (firE_zero _).2 (fun f hf => by
        obtain ⟨v, hv, rfl⟩ := List.mem_map.1 hf
        exact hz v hv)
      have hown := HO.out
      rw [List.take_of_length_le (by have := HF.out.len; omega)] at hown
      have HOW := Hid.mk hown
      have HFZ := Hid.mk hfz
      clear hown hfz hz
      go_wp2_with fail
      go_ret2
      exact ⟨fun h => absurd HFZ.out h, fun _ => ⟨_, rfl, HOW.out⟩, HB.out⟩
end Bw
end Go.Proofs.YtdhmjbnpdmneiadDoor

/- An append to one row beside another one: the row keeps its block, or moves into a new one; of no program. -/
namespace Go.Proofs.YtdhmjbnpdmneiadDoor
open Go.RowKit
namespace Bw
theorem run_append_two {P : Program} (w : World) (base : Nat) (t ty e : TypeId) (i : TypeInfo) (z : Value) (size bytes : Nat) (ht : P.underlying t = some (.slice e)) (hi : P.info? e = some i) (hz : i.zero = some z)
    (hsize : i.size = size) (hby : i.bytes = bytes) (hzs : z.cells.size = size) (hsz : 0 < size)
    (v : Value) (n : Nat) (xs : List Value) (hown : w.ownsRow base e size v n xs)
    (a : Addr) (m c : Nat) (news : List Value) (hl : news.length = m * size) (hnews : ∀ j u, news[j]? = some u → w.cell? (a.add j) = some u) (h1 : ∀ u ∈ news, u.oneCell' = true)
    (h0 : 0 < m) (h63 : n + m ≤ maxLen) (hbytes : (n + m) * bytes ≤ 140737488355328) (hbase : base ≤ w.heap.size) :
    ∃ v' w', (Builtin.append_ #[t, t] ty #[v, .slice (some a) m c]).run P w = .ok v' w' ∧ w'.ownsRow base e size v' (n + m) (xs ++ news) ∧ w.grownBy w' v.ownBlock ∧ (v'.ownBlock = v.ownBlock ∨ v'.ownBlock = some w.heap.size) := by
  obtain ⟨v', w', hr, h2, h3, -⟩ := run_append_own (P := P) w base t ty e i z size bytes ht hi hz hsize hby hzs hsz v n xs hown a m c news hl hnews h1 h63 hbytes hbase
  refine ⟨v', w', hr, h2, h3, ?_⟩
  subst hsize
  subst hby
  have hsmall : n + m ≤ 9223372036854775807 := by simp only [maxLen] at h63; omega
  rcases hown.2 with ⟨rfl, rfl⟩ | ⟨g, cap, cur, rfl, hbg, hg, hnc, hcm, hcs, htake⟩
  · have hq := run_append_nil (P := P) w t ty e i z ht hi hz a m c news hl hnews h0 (by omega) (by have hb := hbytes; simp only [Nat.zero_add] at hb; omega)
    rw [hq] at hr
    injection hr with e1 e2
    right; rw [← e1]; rfl
  · by_cases hroom : n + m ≤ cap
    · have hfit : n * i.size + news.length ≤ cur.size := by rw [hl, hcs, ← Nat.add_mul]; exact Nat.mul_le_mul_right _ hroom
      have hq := run_append_room (P := P) w t ty e i ht hi g n cap cur hg a m c news hl hnews h1 hroom hfit
      rw [hq] at hr
      injection hr with e1 e2
      left; rw [← e1]; rfl
    · have holds : ∀ j u, xs[j]? = some u → w.cell? ((⟨g, 0, none⟩ : Addr).add j) = some u := hown.cells (g := g) rfl
      have hq := run_append_grow (P := P) w t ty e i z ht hi hz ⟨g, 0, none⟩ n cap xs hown.1 holds a m c news hl hnews (by omega) (by omega) (growslice_fits (by omega) hbytes)
      rw [hq] at hr
      injection hr with e1 e2
      right; rw [← e1]; rfl
theorem wpList_append_two {P : Program} {w : World} {ops : Array Oper} {rest : List Oper} {o : Oper} {a : Act} {Q : Exit → Act → World → Prop} (hgd : o.guard = none) (s x : Operand) (t : TypeId)
    (ho : o.op = .call { callee := .builtin .append, args := #[s, x], argTypes := #[t, t] })
    (base : Nat) (e : TypeId) (i : TypeInfo) (z : Value) (size bytes : Nat) (ht : P.underlying t = some (.slice e)) (hi : P.info? e = some i) (hz : i.zero = some z)
    (hsize : i.size = size) (hby : i.bytes = bytes) (hzs : z.cells.size = size) (hsz : 0 < size)
    (v : Value) (n : Nat) (xs : List Value) (hs : a.eval s = v) (hown : w.ownsRow base e size v n xs)
    (ad : Addr) (m c : Nat) (news : List Value) (hx : a.eval x = .slice (some ad) m c) (hl : news.length = m * size) (hnews : ∀ j u, news[j]? = some u → w.cell? (ad.add j) = some u) (h1 : ∀ u ∈ news, u.oneCell' = true)
    (h0 : 0 < m) (h63 : n + m ≤ maxLen) (hbytes : (n + m) * bytes ≤ 140737488355328) (hbase : base ≤ w.heap.size)
    (h : ∀ v' w', w'.ownsRow base e size v' (n + m) (xs ++ news) → w.grownBy w' v.ownBlock → (v'.ownBlock = v.ownBlock ∨ v'.ownBlock = some w.heap.size) → wpList P ops Q rest (a.put o.dst v') w') : wpList P ops Q (o :: rest) a w := by
  refine wpList_plain hgd fun K hK => ?_
  obtain ⟨v', w', hr, h2, h3, h4⟩ := run_append_two (P := P) w base t o.type e i z size bytes ht hi hz hsize hby hzs hsz v n xs hown ad m c news hl hnews h1 h0 h63 hbytes hbase
  unfold Oper.wp
  simp [execOp, ho, resolve, invoke, builtin, hs, hx, hr, Result.andThen]
  exact hK _ _ (h v' w' h2 h3 h4)
/-- another row stays as it was -/
theorem owns_beside {w w' : World} {base : Nat} {e : TypeId} {size : Nat} {v : Value} {n : Nat} {xs : List Value} {row : Option Nat} (h : w.ownsRow base e size v n xs) (hg : w.grownBy w' row) (hne : ∀ k, v.ownBlock = some k → some k ≠ row) : w'.ownsRow base e size v n xs := by
  obtain ⟨h1, h2⟩ := h
  refine ⟨h1, ?_⟩
  rcases h2 with h2 | ⟨g, cap, cur, hv, hgb, hh, r⟩
  · exact Or.inl h2
  · subst hv
    refine Or.inr ⟨g, cap, cur, rfl, hgb, ?_, r⟩
    rw [hg.block g (lt_of_block hh) (hne g rfl)]
    exact hh
/-- two rows lie apart -/
def ApartV (v u : Value) : Prop := ∀ k, v.ownBlock = some k → u.ownBlock ≠ some k
theorem ApartV.symm {v u : Value} (h : ApartV v u) : ApartV u v := fun k hk hv => h k hv hk
theorem apart_next {w : World} {base : Nat} {e : TypeId} {size : Nat} {v v' u : Value} {n : Nat} {xs : List Value} (h : ApartV v u) (hu : w.ownsRow base e size u n xs) (hb : v'.ownBlock = v.ownBlock ∨ v'.ownBlock = some w.heap.size) : ApartV v' u := by
  intro k hk hx
  rcases hb with hb | hb
  · exact h k (by rw [← hb]; exact hk) hx
  · rw [hb] at hk
    have := (World.ownsRow.lt hu k hx).2
    simp at hk
    omega
end Bw
end Go.Proofs.YtdhmjbnpdmneiadDoor

/- Who sends a 0 and who a 1 at a place: wire.senders. -/
namespace Go.Proofs.YtdhmjbnpdmneiadDoor
open Go.ChangeShapes Go.WideShapes Go.ChangeAt Go.RowKit
namespace Bw
open Bm

theorem info_int : (Tryd.prog.info? 3).map (fun i => (i.zero, i.size, i.bytes)) = some (some (.int .i64 0), 1, 8) := by kernel_rfl
/-- numbers as cells -/
def intC (l : List Int) : List Value := l.map fun n => .int .i64 n
theorem intC_append (a b : List Int) : intC (a ++ b) = intC a ++ intC b := by simp [intC]
theorem intC_length (l : List Int) : (intC l).length = l.length := by simp [intC]
theorem zerK_yes {rows : List (List UInt8)} {lost : List Int} {n k : Nat} (h1 : sends rows lost n k = true) (h2 : isZ rows n k = true) : zerK rows lost n (k + 1) = zerK rows lost n k ++ [(k : Int)] ∧ oneK rows lost n (k + 1) = oneK rows lost n k := by
  rw [zerK, oneK, h1, h2]; exact ⟨rfl, rfl⟩
theorem oneK_yes {rows : List (List UInt8)} {lost : List Int} {n k : Nat} (h1 : sends rows lost n k = true) (h2 : isZ rows n k = false) : oneK rows lost n (k + 1) = oneK rows lost n k ++ [(k : Int)] ∧ zerK rows lost n (k + 1) = zerK rows lost n k := by
  rw [zerK, oneK, h1, h2]; exact ⟨rfl, rfl⟩
theorem sends_no {rows : List (List UInt8)} {lost : List Int} {n k : Nat} (h1 : sends rows lost n k = false) : zerK rows lost n (k + 1) = zerK rows lost n k ∧ oneK rows lost n (k + 1) = oneK rows lost n k := by
  rw [zerK, oneK, h1]; exact ⟨rfl, rfl⟩

set_option maxHeartbeats 4000000 in
set_option maxRecDepth 100000 in
theorem senders_any (gr cr gl cl n at_ : Nat) (rows : List (List UInt8)) (lost : List Int) (w : World) (hr : rows.length = n) (hl : lost.length = n) (hn : n ≤ 6) (hlen : ∀ r ∈ rows, r.length ≤ 1000) (hX : StrsAt w gr 0 rows) (hY : NumsAt w gl 0 lost) :
    Calls Tryd.prog 59 #[.slice (some ⟨gr, 0, none⟩) n cr, .slice (some ⟨gl, 0, none⟩) n cl, .int .i64 at_] w fun e w' => ∃ zv ov, e = .returned (.tuple #[zv, ov]) ∧
      w'.ownsRow w.heap.size 3 1 zv (zerK rows lost at_ n).length (intC (zerK rows lost at_ n)) ∧ w'.ownsRow w.heap.size 3 1 ov (oneK rows lost at_ n).length (intC (oneK rows lost at_ n)) ∧ Below w.heap.size w w' := by
  obtain ⟨i0, hi, hz0, hz1, hz2⟩ := info_parts info_int
  have HX := Hid.mk hX
  have HY := Hid.mk hY
  have HR := Hid.mk hr
  have HL := Hid.mk hl
  have HLN := Hid.mk hlen
  clear hX hY hr hl hlen
  go_enter Tryd.func59, Tryd.ntmps59
  go_wp2_with fail
  go_loopw [6, 7, 11] (fun z o i wr => ∃ k : Nat, k ≤ n ∧ i = .int .i64 k ∧ Hid (wr.ownsRow w.heap.size 3 1 z (zerK rows lost at_ k).length (intC (zerK rows lost at_ k))) ∧ Hid (wr.ownsRow w.heap.size 3 1 o (oneK rows lost at_ k).length (intC (oneK rows lost at_ k))) ∧ Hid (ApartV z o) ∧ Hid (Below w.heap.size w wr)) (fun _ _ i _ => n - (intOf i).toNat)
  case atStart => exact ⟨0, Nat.zero_le _, rfl, Hid.mk (by simpa [zerK, intC] using World.ownsRow_nil _ _ _ _), Hid.mk (by simpa [oneK, intC] using World.ownsRow_nil _ _ _ _), Hid.mk (fun k hk => by cases hk), Hid.mk (Below.refl _ _)⟩
  case round =>
    obtain ⟨k, hk, rfl, HZ, HO, HA, HB⟩ := hrel
    by_cases hlt : k < n
    · have hlt' : (k : Int) < (n : Int) := by omega
      have c1 := cell_kept HB.out (HY.out k (by rw [HL.out]; exact hlt))
      have c2 := cell_kept HB.out (HX.out k (by rw [HR.out]; exact hlt))
      simp only [Nat.zero_add] at c1 c2
      obtain ⟨R, hR⟩ : ∃ R : ByteArray, R = ⟨(rows.getD k []).toArray⟩ := ⟨_, rfl⟩
      have hRl : R.data.toList = rows.getD k [] := by rw [hR]
      have hRs : R.size = (rows.getD k []).length := ba_size hRl
      have hR1000 : R.size ≤ 1000 := by rw [hRs]; exact HLN.out _ (row_mem rows k (by rw [HR.out]; exact hlt))
      rw [← hR] at c2
      obtain ⟨x, hx⟩ : ∃ x, x = lost.getD k 0 := ⟨_, rfl⟩
      rw [← hx] at c1
      have HRl := Hid.mk hRl
      have HRs := Hid.mk hRs
      have HXx := Hid.mk hx
      clear hR hRl hRs hx
      by_cases h1 : x = -1
      · by_cases h2 : at_ < R.size
        · have hs : sends rows lost at_ k = true := by
            unfold sends
            rw [← HXx.out, h1, ← HRs.out]
            simpa using h2
          have hat2 := at_getD R at_ h2
          rw [HRl.out] at hat2
          have hb1 : (x != -1) = false := by rw [h1]; rfl
          by_cases h3 : (rows.getD k []).getD at_ 0 = 48
          · have hzz : isZ rows at_ k = true := by unfold isZ; rw [h3]; rfl
            have hb2 : ((R[at_].toNat : Int) == 48) = true := by rw [hat2, h3]; rfl
            have HS := Hid.mk (zerK_yes hs hzz)
            have hsz := zerK_len rows lost at_ k
            clear h3 hzz hs hat2 h1
            go_wp2_with (at_builtin; refine wpList_append_two rfl (.tmp 41) (.tmp 43) 36 rfl w.heap.size 3 i0 (.int .i64 0) 1 8 Tryd.underlying36 hi hz0 hz1 hz2 rfl (by decide) _ _ _ rfl (HZ.out.alloc _) ⟨wr.heap.size, 0, none⟩ 1 1 [Value.int .i64 k] rfl rfl (by intro q u hq; match q, hq with | 0, hq => (simp at hq; subst hq; simp [Addr.add])) (by intro u hu; simp at hu; subst hu; rfl) (by decide) (by unfold maxLen; omega) (by omega) (by have := HB.out.size; simp; omega) ?_; intro v1 w3 hown1 hgrow1 hblk1)
            have hB3 : Below w.heap.size w w3 := Below.grown (HB.out.alloc HB.out.size _) hgrow1 (by have := HB.out.size; simp; omega) (fun q hq => (HZ.out.lt q hq).1)
            have hoth := owns_beside (HO.out.alloc _) hgrow1 (fun q hq e => HA.out q e.symm hq)
            have hown2 := hown1
            rw [show intC (zerK rows lost at_ k) ++ [Value.int .i64 k] = intC (zerK rows lost at_ (k + 1)) by rw [HS.out.1, intC_append]; rfl, show (zerK rows lost at_ k).length + 1 = (zerK rows lost at_ (k + 1)).length by rw [HS.out.1]; simp] at hown2
            rw [← HS.out.2] at hoth
            have HAp := Hid.mk (apart_next (v := u6) HA.out (HO.out.alloc _) hblk1)
            clear hown1 hgrow1 hblk1
            go_roundw
            case rel => exact ⟨k + 1, by omega, by go_num, Hid.mk hown2, Hid.mk hoth, HAp, Hid.mk hB3⟩
            case measure => simp [intOf]; omega
          · have hzz : isZ rows at_ k = false := by unfold isZ; simpa using h3
            have hb2 : ((R[at_].toNat : Int) == 48) = false := by
              rw [hat2, beq_eq_false_iff_ne]
              intro hx
              apply h3
              have h48 : ((rows.getD k []).getD at_ 0).toNat = 48 := by omega
              exact UInt8.toNat_inj.1 h48
            have HS := Hid.mk (oneK_yes hs hzz)
            have hsz := oneK_len rows lost at_ k
            clear h3 hzz hs hat2 h1
            go_wp2_with (at_builtin; refine wpList_append_two rfl (.tmp 14) (.tmp 16) 36 rfl w.heap.size 3 i0 (.int .i64 0) 1 8 Tryd.underlying36 hi hz0 hz1 hz2 rfl (by decide) _ _ _ rfl (HO.out.alloc _) ⟨wr.heap.size, 0, none⟩ 1 1 [Value.int .i64 k] rfl rfl (by intro q u hq; match q, hq with | 0, hq => (simp at hq; subst hq; simp [Addr.add])) (by intro u hu; simp at hu; subst hu; rfl) (by decide) (by unfold maxLen; omega) (by omega) (by have := HB.out.size; simp; omega) ?_; intro v1 w3 hown1 hgrow1 hblk1)
            have hB3 : Below w.heap.size w w3 := Below.grown (HB.out.alloc HB.out.size _) hgrow1 (by have := HB.out.size; simp; omega) (fun q hq => (HO.out.lt q hq).1)
            have hoth := owns_beside (HZ.out.alloc _) hgrow1 (fun q hq e => HA.out.symm q e.symm hq)
            have hown2 := hown1
            rw [show intC (oneK rows lost at_ k) ++ [Value.int .i64 k] = intC (oneK rows lost at_ (k + 1)) by rw [HS.out.1, intC_append]; rfl, show (oneK rows lost at_ k).length + 1 = (oneK rows lost at_ (k + 1)).length by rw [HS.out.1]; simp] at hown2
            rw [← HS.out.2] at hoth
            have HAp := Hid.mk ((apart_next (v := u7) HA.out.symm (HZ.out.alloc _) hblk1).symm)
            clear hown1 hgrow1 hblk1
            go_roundw
            case rel => exact ⟨k + 1, by omega, by go_num, Hid.mk hoth, Hid.mk hown2, HAp, Hid.mk hB3⟩
            case measure => simp [intOf]; omega
        · have hs : sends rows lost at_ k = false := by
            unfold sends
            rw [← HRs.out]
            simp
            intro _
            omega
          have HS := Hid.mk (sends_no hs)
          have hb1 : (x != -1) = false := by rw [h1]; rfl
          have h2' : (R.size : Int) ≤ (at_ : Int) := by omega
          clear hs h1
          go_wp2_with fail
          go_roundw
          case rel => exact ⟨k + 1, by omega, by go_num, by rw [HS.out.1]; exact HZ, by rw [HS.out.2]; exact HO, HA, HB⟩
          case measure => simp [intOf]; omega
      · have hs : sends rows lost at_ k = false := by
          unfold sends
          rw [← HXx.out]
          simp
          intro h; exact absurd h h1
        have HS := Hid.mk (sends_no hs)
        have hb1 : (x != -1) = true := by simpa using h1
        clear hs h1
        go_wp2_with fail
        go_roundw
        case rel => exact ⟨k + 1, by omega, by go_num, by rw [HS.out.1]; exact HZ, by rw [HS.out.2]; exact HO, HA, HB⟩
        case measure => simp [intOf]; omega
    · have e : k = n := by omega
      subst e
      go_wp2_with fail
      go_ret2
      exact ⟨_, _, rfl, HZ.out, HO.out, HB.out⟩
end Bw
end Go.Proofs.YtdhmjbnpdmneiadDoor

/- What is on the bus, and who gives way where: wire.contest. -/
namespace Go.Proofs.YtdhmjbnpdmneiadDoor
open Go.ChangeShapes Go.WideShapes Go.ChangeAt Go.RowKit
namespace Bw
open Bm

theorem owns_slice {w : World} {base : Nat} {e : TypeId} {size : Nat} {v : Value} {n : Nat} {xs : List Value} (h : w.ownsRow base e size v n xs) : ∃ a cap, v = .slice a n cap := by
  rcases h.2 with ⟨rfl, rfl⟩ | ⟨g, cap, cur, rfl, -⟩
  · exact ⟨_, _, rfl⟩
  · exact ⟨_, _, rfl⟩
theorem owns_some {w : World} {base : Nat} {e : TypeId} {size : Nat} {v : Value} {n : Nat} {xs : List Value} (h : w.ownsRow base e size v n xs) (h0 : 0 < n) : ∃ g cap, v = .slice (some ⟨g, 0, none⟩) n cap ∧ base ≤ g ∧ g < w.heap.size := by
  rcases h.2 with ⟨rfl, rfl⟩ | ⟨g, cap, cur, rfl, hb, hg, -⟩
  · omega
  · exact ⟨_, _, rfl, hb, lt_of_block hg⟩
theorem nums_of {w : World} {base g n cap : Nat} {l : List Int} (h : w.ownsRow base 3 1 (.slice (some ⟨g, 0, none⟩) n cap) n (intC l)) : NumsAt w g 0 l := by
  intro i hi
  have hl : (intC l).length = n * 1 := h.1
  rw [intC_length] at hl
  rw [Nat.zero_add, h.cellAt i (by omega)]
  simp [intC, List.getD, hi]
theorem intC_set (l : List Int) (i : Nat) (x : Int) : (intC l).set i (.int .i64 x) = intC (l.set i x) := by
  unfold intC; rw [List.map_set]
/-- so many set to -1 -/
def fillK (n k : Nat) : List Int := List.replicate k (-1) ++ List.replicate (n - k) 0
theorem fillK_len (n k : Nat) (h : k ≤ n) : (fillK n k).length = n := by simp [fillK]; omega
theorem fillK_set (n k : Nat) (h : k < n) : (fillK n k).set k (-1) = fillK n (k + 1) := by
  unfold fillK
  rw [List.set_append_right _ _ (by simp)]
  simp only [List.length_replicate, Nat.sub_self]
  obtain ⟨m, hm⟩ : ∃ m, n - k = m + 1 := ⟨n - k - 1, by omega⟩
  rw [hm, show n - (k + 1) = m by omega, List.replicate_succ, List.set_cons_zero, List.replicate_succ', List.append_assoc]
  rfl

set_option maxHeartbeats 8000000 in
set_option maxRecDepth 100000 in
theorem contest_any (gr cr n : Nat) (rows : List (List UInt8)) (best : List UInt8) (w : World) (hr : rows.length = n) (h1 : 1 ≤ n) (hn : n ≤ 6) (hlen : ∀ r ∈ rows, r.length ≤ 900) (hrow : ∀ r ∈ rows, rowB r = true) (hA : Apart rows) (hL : Least rows best) (hX : StrsAt w gr 0 rows) :
    Calls Tryd.prog 32 #[.slice (some ⟨gr, 0, none⟩) n cr] w fun e w' => e = .returned (.tuple #[.string ⟨best.toArray⟩, .slice (some ⟨w.heap.size, 0, none⟩) n n]) ∧
      w'.ownsRow w.heap.size 3 1 (.slice (some ⟨w.heap.size, 0, none⟩) n n) n (intC (rows.map fun r => dif r best)) ∧ Below w.heap.size w w' := by
  obtain ⟨i0, hi, hz0, hz1, hz2⟩ := info_parts info_int
  obtain ⟨j0, hj0, hy0, hy1, hy2⟩ := info_parts info_u8
  have HS := Hid.mk (fun W (lost : List Int) (at_ : Nat) (hl : lost.length = n) (hW : StrsAt W gr 0 rows) (hY : NumsAt W w.heap.size 0 lost) => senders_any gr cr w.heap.size n n at_ rows lost W hr hl hn (fun r hr => Nat.le_trans (hlen r hr) (by omega)) hW hY)
  have HX := Hid.mk hX
  have HR := Hid.mk hr
  have HLN := Hid.mk hlen
  have HRW := Hid.mk hrow
  have HAp := Hid.mk hA
  have HL := Hid.mk hL
  have hbl : best.length ≤ 900 := hlen best hL.1
  clear hX hr hlen hrow hA hL
  go_enter Tryd.func32, Tryd.ntmps32
  go_wp2_with (at_make; refine wpList_make_full _ rfl (.tmp 13) (.tmp 13) 36 rfl w.heap.size 3 i0 (.int .i64 0) 1 Tryd.underlying36 hi hz0 hz1 .i64 .i64 _ _ n rfl rfl (by omega) (by omega) (by rw [hz2]; omega) (by unfold maxLen; omega) (Nat.le_refl _) ?_; intro w2 hown hgrow)
  have hown0 : w2.ownsRow w.heap.size 3 1 (.slice (some ⟨w.heap.size, 0, none⟩) n n) n (intC (fillK n 0)) := by
    have e : intC (fillK n 0) = (madeCells (Value.int .i64 0).cells (n * 1)).toList := by
      rw [Nat.mul_one]
      show intC (fillK n 0) = (madeCells #[.int .i64 0] n).toList
      rw [toList_madeCells_one]
      simp [fillK, intC]
    rw [e]; exact hown
  have hb2 : Below w.heap.size w w2 := Below.grown (Below.refl _ _) hgrow (Nat.le_refl _) (fun q hq => by cases hq)
  clear hown hgrow
  go_loopw [17] (fun i wr => ∃ k : Nat, k ≤ n ∧ i = .int .i64 k ∧ wr.ownsRow w.heap.size 3 1 (.slice (some ⟨w.heap.size, 0, none⟩) n n) n (intC (fillK n k)) ∧ Below w.heap.size w wr) (fun i _ => n - (intOf i).toNat)
  case atStart => exact ⟨0, Nat.zero_le _, rfl, hown0, hb2⟩
  case round =>
    clear hown0 hb2
    obtain ⟨k, hk, rfl, hown, hbel⟩ := hrel
    by_cases hlt : k < n
    · have hlt' : (k : Int) < (n : Int) := by omega
      have hc3 := hown.cellAt k (by omega)
      have hf3 := hown.frozenAt k
      rw [show (intC (fillK n k))[k]? = some ((intC (fillK n k))[k]'(by rw [intC_length, fillK_len n k hk]; exact hlt)) from List.getElem?_eq_getElem _] at hc3
      generalize (intC (fillK n k))[k]'(by rw [intC_length, fillK_len n k hk]; exact hlt) = c3 at hc3
      have hst := hown.stored k (.int .i64 (-1))
      rw [intC_set, fillK_set n k hlt] at hst
      have HO4 := Hid.mk hst.1
      have HB4 := Hid.mk (hbel.grown hst.2 hbel.size (fun q hq => by cases hq; exact Nat.le_refl _))
      clear hown hst
      go_wp2_with fail
      go_roundw
      case rel => exact ⟨k + 1, by omega, by go_num, HO4.out, HB4.out⟩
      case measure => simp [intOf]; omega
    · have e : k = n := by omega
      subst e
      rw [show fillK k k = lostL rows best 0 by rw [lost_start, HR.out]; simp [fillK]] at hown
      have HL0 := Hid.mk hown
      have HB0 := Hid.mk hbel
      clear hown hbel
      go_wp2_with fail
      go_loopw [6, 24] (fun r i wr => ∃ j : Nat, j ≤ best.length ∧ i = .int .i64 j ∧ Hid (wr.ownsRow w.heap.size 5 1 r j (cellsOf (best.take j))) ∧ Hid (wr.ownsRow w.heap.size 3 1 (.slice (some ⟨w.heap.size, 0, none⟩) k k) k (intC (lostL rows best j))) ∧ Hid (ApartV r (.slice (some ⟨w.heap.size, 0, none⟩) k k)) ∧ Hid (Below w.heap.size w wr)) (fun _ i _ => 1000 - (intOf i).toNat)
      case atStart => exact ⟨0, Nat.zero_le _, rfl, Hid.mk (by simpa [cellsOf] using World.ownsRow_nil _ _ _ _), HL0, Hid.mk (fun q hq => by cases hq), HB0⟩
      case round =>
        obtain ⟨j, hj, rfl, HBus, HLo, HAp2, HBel⟩ := hrel
        have hj1000 : (j : Int) < 1000 := by omega
        have hc0 := HS.out wr (lostL rows best j) j (by rw [lostL_len, HR.out]) (fun i hi => cell_kept HBel.out (HX.out i hi)) (nums_of HLo.out)
        by_cases hlt : j < best.length
        · have hbt : best.getD j 0 = 49 ∨ best.getD j 0 = 48 := by
            have hb : bit (best.getD j 0) = true := by
              rw [List.getD, List.getElem?_eq_getElem hlt, Option.getD_some]
              exact List.all_eq_true.1 (HRW.out best HL.out.1) _ (List.getElem_mem hlt)
            rcases (bit_iff _).1 hb with h | h
            · right; exact UInt8.toNat_inj.1 (show (best.getD j 0).toNat = 48 by omega)
            · left; exact UInt8.toNat_inj.1 (show (best.getD j 0).toNat = 49 by omega)
          rcases hbt with hbt | hbt
          · have HBit := Hid.mk hbt
            obtain ⟨g1, g2, g3⟩ := one_step HAp.out HRW.out HL.out hlt hbt
            rw [HR.out] at g1 g2
            rw [g1] at hc0
            have ho1 : 0 < (oneK rows (lostL rows best j) j k).length := List.length_pos_iff.2 g2
            have ho2 := oneK_len rows (lostL rows best j) j k
            have HC := Hid.mk hc0
            have HG3 := Hid.mk g3
            generalize oneK rows (lostL rows best j) j k = ones at *
            clear hc0 g1 g2 g3 hbt
            go_wp2_with fail
            refine HC.out.mono ?_
            rintro e w1 ⟨zv, ov, rfl, hz, ho, hb1⟩
            obtain ⟨az, cz, rfl⟩ := owns_slice hz
            obtain ⟨ao, co, rfl⟩ := owns_slice ho
            have HBus1 := Hid.mk (ownsRow_below HBus.out hb1)
            have HLo1 := Hid.mk (ownsRow_below HLo.out hb1)
            have HBel1 := Hid.mk (bl2 HBel.out hb1)
            generalize ones.length = lo at *
            have hq : ((lo : Int) == 0) = false := by rw [beq_eq_false_iff_ne]; omega
            clear hz ho hb1 HBus HLo HBel HC
            go_wp2_with (at_builtin; refine wpList_append_two rfl (.tmp 43) (.tmp 44) 28 rfl w.heap.size 5 j0 (.int .u8 0) 1 1 Tryd.underlying28 hj0 hy0 hy1 hy2 rfl (by decide) _ _ _ rfl (HBus1.out.alloc _) ⟨w1.heap.size, 0, none⟩ 1 1 [Value.int .u8 49] rfl rfl (by intro q u hq; match q, hq with | 0, hq => (simp at hq; subst hq; simp [Addr.add])) (by intro u hu; simp at hu; subst hu; rfl) (by decide) (by unfold maxLen; omega) (by omega) (by have := HBel1.out.size; simp; omega) ?_; intro v3 w3 hown3 hgrow3 hblk3)
            have hB3 : Below w.heap.size w w3 := Below.grown (HBel1.out.alloc HBel1.out.size _) hgrow3 (by have := HBel1.out.size; simp; omega) (fun q hq => (HBus1.out.lt q hq).1)
            have hL3 := owns_beside (HLo1.out.alloc _) hgrow3 (fun q hq e => HAp2.out q e.symm hq)
            have hA3 := apart_next (v := u6) HAp2.out (HLo1.out.alloc _) hblk3
            rw [show cellsOf (best.take j) ++ [Value.int .u8 49] = cellsOf (best.take (j + 1)) by rw [take_snocL best j hlt, cellsOf_append, HBit.out]; rfl] at hown3
            rw [← HG3.out] at hL3
            clear hgrow3 hblk3
            go_roundw
            case rel => exact ⟨j + 1, by omega, by go_num, Hid.mk hown3, Hid.mk hL3, Hid.mk hA3, Hid.mk hB3⟩
            case measure => simp [intOf]; omega
          · have HBit := Hid.mk hbt
            obtain ⟨g1, g2⟩ := zero_step HAp.out HL.out.1 hlt hbt
            rw [HR.out] at g1 g2
            have hz1 : 0 < (zerK rows (lostL rows best j) j k).length := List.length_pos_iff.2 g1
            have hz3 := zerK_len rows (lostL rows best j) j k
            have ho2 := oneK_len rows (lostL rows best j) j k
            have hin : ∀ x ∈ oneK rows (lostL rows best j) j k, ∃ i : Nat, i < k ∧ x = i := by
              intro x hx
              obtain ⟨i, h1, h2, _⟩ := (oneK_mem rows _ _ x k).1 hx
              exact ⟨i, h1, h2⟩
            have HC := Hid.mk hc0
            have HG2 := Hid.mk g2
            have HIN := Hid.mk hin
            generalize oneK rows (lostL rows best j) j k = ones at *
            generalize (zerK rows (lostL rows best j) j k).length = lz at *
            clear hc0 g1 g2 hbt hin
            go_wp2_with fail
            refine HC.out.mono ?_
            rintro e w1 ⟨zv, ov, rfl, hz, ho, hb1⟩
            obtain ⟨az, cz, rfl⟩ := owns_slice hz
            obtain ⟨ao, co, rfl⟩ := owns_slice ho
            have HBus1 := Hid.mk (ownsRow_below HBus.out hb1)
            have HLo1 := Hid.mk (ownsRow_below HLo.out hb1)
            have HBel1 := Hid.mk (bl2 HBel.out hb1)
            have HOn := Hid.mk ho
            have HGL := Hid.mk (show w.heap.size < wr.heap.size from (HLo.out.lt w.heap.size rfl).2)
            have HBL := Hid.mk (fun q hq => (HBus.out.lt q hq).2)
            obtain ⟨B0, hB0⟩ : ∃ B0 : Nat, B0 = wr.heap.size := ⟨_, rfl⟩
            rw [← hB0] at HOn HGL HBL
            clear hB0
            obtain ⟨lo, hlo⟩ : ∃ lo, lo = ones.length := ⟨_, rfl⟩
            rw [← hlo] at HOn ho2 HG2 ⊢
            have HLO := Hid.mk hlo
            have hq : (((lz : Int) + (lo : Int)) == 0) = false := by rw [beq_eq_false_iff_ne]; omega
            have hq2 : ((lz : Int) == 0) = false := by rw [beq_eq_false_iff_ne]; omega
            clear hlo hz ho hb1 HBus HLo HBel HC
            go_wp2_with (at_builtin; refine wpList_append_two rfl (.tmp 46) (.tmp 47) 28 rfl w.heap.size 5 j0 (.int .u8 0) 1 1 Tryd.underlying28 hj0 hy0 hy1 hy2 rfl (by decide) _ _ _ rfl (HBus1.out.alloc _) ⟨w1.heap.size, 0, none⟩ 1 1 [Value.int .u8 48] rfl rfl (by intro q u hq; match q, hq with | 0, hq => (simp at hq; subst hq; simp [Addr.add])) (by intro u hu; simp at hu; subst hu; rfl) (by decide) (by unfold maxLen; omega) (by omega) (by have := HBel1.out.size; simp; omega) ?_; intro v3 w3 hown3 hgrow3 hblk3)
            have hB3 : Below w.heap.size w w3 := Below.grown (HBel1.out.alloc HBel1.out.size _) hgrow3 (by have := HBel1.out.size; simp; omega) (fun q hq => (HBus1.out.lt q hq).1)
            have hL3 := owns_beside (HLo1.out.alloc _) hgrow3 (fun q hq e => HAp2.out q e.symm hq)
            have hA3 := apart_next (v := u6) HAp2.out (HLo1.out.alloc _) hblk3
            rw [show cellsOf (best.take j) ++ [Value.int .u8 48] = cellsOf (best.take (j + 1)) by rw [take_snocL best j hlt, cellsOf_append, HBit.out]; rfl] at hown3
            have HOn3 := Hid.mk (owns_beside (HOn.out.alloc _) hgrow3 (fun q hq e => by
              have h1 := HBL.out q e.symm
              have h2 := (HOn.out.lt q hq).1
              omega))
            have HB3 := Hid.mk hB3
            have HL3 := Hid.mk hL3
            have HA3 := Hid.mk hA3
            have HU3 := Hid.mk hown3
            clear hgrow3 hblk3 hB3 hL3 hA3 hown3 HOn HLo1 HBus1 HBel1
            go_loopw [51] (fun i wr3 => ∃ q : Nat, q ≤ lo ∧ i = .int .i64 q ∧ Hid (wr3.ownsRow w.heap.size 3 1 (.slice (some ⟨w.heap.size, 0, none⟩) k k) k (intC (giveK (lostL rows best j) j ones q))) ∧ Hid (wr3.ownsRow w.heap.size 5 1 v3 (j + 1) (cellsOf (best.take (j + 1)))) ∧ Hid (wr3.ownsRow B0 3 1 (.slice ao lo co) lo (intC ones)) ∧ Hid (Below w.heap.size w wr3)) (fun i _ => lo - (intOf i).toNat)
            case atStart => exact ⟨0, Nat.zero_le _, rfl, HL3, HU3, HOn3, HB3⟩
            case round =>
              clear HL3 HU3 HOn3 HB3
              obtain ⟨q, hqk, rfl, HLq, HUq, HOq, HBq⟩ := hrel
              by_cases hqlt : q < lo
              · obtain ⟨go, cgo, heq, hgo1, hgo2⟩ := owns_some HOq.out (by omega)
                simp only [Value.slice.injEq] at heq
                obtain ⟨rfl, -, rfl⟩ := heq
                have hqlt' : (q : Int) < (lo : Int) := by omega
                have hql : q < ones.length := by rw [← HLO.out]; exact hqlt
                obtain ⟨i, hik, hix⟩ := HIN.out ones[q] (List.getElem_mem hql)
                have c1 : wr.cell? ⟨go, q, none⟩ = some (.int .i64 i) := by
                  rw [HOq.out.cellAt q (by omega)]
                  simp [intC, hql, hix]
                have hLl : (intC (giveK (lostL rows best j) j ones q)).length = k := by rw [intC_length, giveK_len, lostL_len, HR.out]
                have hc3 := HLq.out.cellAt i (by omega)
                have hf3 := HLq.out.frozenAt i
                rw [List.getElem?_eq_getElem (by rw [hLl]; exact hik)] at hc3
                generalize (intC (giveK (lostL rows best j) j ones q))[i]'(by rw [hLl]; exact hik) = c3 at hc3
                have hst := HLq.out.stored i (.int .i64 (j : Int))
                rw [intC_set] at hst
                have hgs : (giveK (lostL rows best j) j ones q).set i (j : Int) = giveK (lostL rows best j) j ones (q + 1) := by
                  rw [giveK, show ones.getD q 0 = ones[q] by simp [List.getD, hql], hix, Int.toNat_natCast]
                rw [hgs] at hst
                have HLn := Hid.mk hst.1
                have HBn := Hid.mk (HBq.out.grown hst.2 HBq.out.size (fun q hq => by cases hq; exact Nat.le_refl _))
                have HUn := Hid.mk (owns_beside HUq.out hst.2 (fun x hx e => by
                  have e2 : x = w.heap.size := by simpa using e
                  subst e2
                  exact HA3.out _ hx rfl))
                have HOn := Hid.mk (owns_beside HOq.out hst.2 (fun x hx e => by
                  have e2 : x = w.heap.size := by simpa using e
                  have h1 := (HOq.out.lt x hx).1
                  have h2 := HGL.out
                  omega))
                have hik' : (i : Int) < (k : Int) := by omega
                clear hst hgs hLl hix hql HLq HUq HOq HBq hgo1 hgo2
                go_wp2_with fail
                go_roundw
                case rel => exact ⟨q + 1, by omega, by go_num, HLn, HUn, HOn, HBn⟩
                case measure => simp [intOf]; omega
              · have e : q = lo := by omega
                subst e
                have hLe := HLq.out
                rw [HG2.out] at hLe
                have HLe := Hid.mk hLe
                clear hLe
                go_wp2_with fail
                go_roundw
                case rel => exact ⟨j + 1, by omega, by go_num, HUq, HLe, HA3, HBq⟩
                case measure => simp [intOf]; omega
        · have e2 : j = best.length := by omega
          subst e2
          obtain ⟨g1, g2⟩ := none_left HAp.out HL.out.1
          rw [HR.out] at g1 g2
          rw [g1, g2] at hc0
          have HC := Hid.mk hc0
          clear hc0 g1 g2
          go_wp2_with fail
          refine HC.out.mono ?_
          rintro e w1 ⟨zv, ov, rfl, hz, ho, hb1⟩
          obtain ⟨az, cz, rfl⟩ := owns_slice hz
          obtain ⟨ao, co, rfl⟩ := owns_slice ho
          have HBus1 := Hid.mk (ownsRow_below HBus.out hb1)
          have HLo1 := Hid.mk (ownsRow_below HLo.out hb1)
          have HBel1 := Hid.mk (bl2 HBel.out hb1)
          have hcv := convert_own HBus1.out
          rw [List.take_length] at hcv
          have hfin := HLo1.out
          rw [lost_end] at hfin
          have HFin := Hid.mk hfin
          clear hfin hz ho hb1 HBus HLo HBel HC HBus1 HLo1
          go_wp2_with fail
          go_ret2
          exact ⟨rfl, HFin.out, HBel1.out⟩
end Bw
end Go.Proofs.YtdhmjbnpdmneiadDoor

/- Where something stands in a list, if it stands there once: wire.only of numbers. -/
namespace Go.Proofs.YtdhmjbnpdmneiadDoor
open Go.ChangeShapes Go.WideShapes Go.ChangeAt Go.RowKit
namespace Bw
open Bm

theorem sizeOfI (W : World) : (sizeOf 3).run Tryd.prog W = .ok 1 W := by
  have h : (Tryd.prog.info? 3).map (·.size) = some 1 := by kernel_rfl
  cases hi : Tryd.prog.info? 3 with
  | none => rw [hi] at h; cases h
  | some i =>
    rw [hi] at h
    have h1 : i.size = 1 := by simpa using h
    simp [sizeOf, typeInfo, hi, h1]
theorem sliceI (g n c l : Nat) (xs : List Int) (w : World) (hn : xs.length = n) (hl : l ≤ n) (hnc : n ≤ c) (hx : NumsAt w g 0 xs) :
    ∃ off, (∀ W, (Instr.slice 36 (.slice (some ⟨g, 0, none⟩) n c) (some (.int .i64 (l : Int))) none none).run Tryd.prog W = .ok (.slice (some ⟨g, off, none⟩) (n - l) (c - l)) W) ∧ NumsAt w g off (xs.drop l) := by
  have key : ∀ W, (Instr.slice 36 (.slice (some ⟨g, 0, none⟩) n c) (some (.int .i64 (l : Int))) none none).run Tryd.prog W = .ok (.slice (some ⟨g, if c = l then 0 else l, none⟩) (n - l) (c - l)) W := by
    intro W
    rw [run_slice_l W 36 (some ⟨g, 0, none⟩) n c (by kernel_rfl) .i64 (l : Int) (by omega) (by omega)]
    have e : Tryd.prog.elem 36 = 3 := by kernel_rfl
    rw [e, sizeOfI W]
    simp only [Result.andThen_ok, sliced, Int.toNat_natCast, Nat.mul_one, Option.map_some]
    by_cases h : c = l
    · rw [if_pos h, if_pos h]
    · rw [if_neg h, if_neg h]; simp [Addr.add]; exact fun h => h.symm
  refine ⟨_, key, ?_⟩
  intro i hi
  rw [List.length_drop] at hi
  by_cases h : c = l
  · omega
  · rw [if_neg h]
    have := hx (l + i) (by omega)
    rw [Nat.zero_add] at this
    rw [this]
    simp [List.getD]
set_option maxHeartbeats 2000000 in
set_option maxRecDepth 100000 in
theorem onlyI_any (g n c : Nat) (xs : List Int) (v : Int) (w : World) (hn : xs.length = n) (hm : n ≤ 6) (hnc : n ≤ c) (hx : NumsAt w g 0 xs) :
    Calls Tryd.prog 33 #[.slice (some ⟨g, 0, none⟩) n c, .int .i64 v] w fun e w' => e = .returned (.tuple #[.int .i64 (onlyN xs v), .int .i64 (onlyE xs v)]) ∧ w' = w := by
  have HI := Hid.mk (indexN g 0 n c xs v w hn (by omega) hx)
  have hge := idxG_ge xs v
  rw [hn] at hge
  by_cases h0 : idxG xs v < 0
  · have e1 : onlyE xs v = 8 := by unfold onlyE; rw [if_pos h0]
    have e2 : onlyN xs v = 0 := by unfold onlyN; rw [e1]; rfl
    rw [e1, e2]
    generalize idxG xs v = q at *
    clear e1 e2 hx hn hge
    go_enter Tryd.func33, Tryd.ntmps33
    go_wp2_with fail
    refine HI.out.mono ?_
    rintro e w1 ⟨rfl, hw⟩
    subst hw
    go_wp2_with fail
    go_ret2
    exact ⟨rfl, rfl⟩
  · obtain ⟨l, hl⟩ : ∃ l : Nat, idxG xs v = l := ⟨(idxG xs v).toNat, by omega⟩
    obtain ⟨off, hsl, hx2⟩ := sliceI g n c (l + 1) xs w hn (by omega) hnc hx
    have hc := containsN g off (n - (l + 1)) (c - (l + 1)) (xs.drop (l + 1)) v w (by rw [List.length_drop, hn]) (by omega) hx2
    have e1 : onlyE xs v = if v ∈ xs.drop (l + 1) then 9 else 0 := by
      unfold onlyE
      rw [if_neg h0, hl, Int.toNat_natCast]
      try (by_cases h : v ∈ xs.drop (l + 1) <;> simp [h])
    have e2 : onlyN xs v = if v ∈ xs.drop (l + 1) then 0 else (l : Int) := by
      unfold onlyN
      rw [e1, hl]
      by_cases h : v ∈ xs.drop (l + 1)
      · rw [if_pos h, if_pos h, if_neg (by omega)]
      · rw [if_neg h, if_neg h, if_pos rfl]
    rw [hl] at HI hge
    rw [e1, e2]
    have hsl' : ∀ W, (Instr.slice 36 (.slice (some ⟨g, 0, none⟩) n c) (some (.int .i64 ((l : Int) + 1))) none none).run Tryd.prog W = .ok (.slice (some ⟨g, off, none⟩) (n - (l + 1)) (c - (l + 1))) W := by
      intro W
      have := hsl W
      rw [show ((l + 1 : Nat) : Int) = (l : Int) + 1 by omega] at this
      exact this
    generalize n - (l + 1) = n2 at *
    generalize c - (l + 1) = c2 at *
    clear hsl hl h0 hx hx2 e1 e2
    by_cases h : v ∈ xs.drop (l + 1)
    · rw [if_pos h, if_pos h]
      have hd : decide (v ∈ xs.drop (l + 1)) = true := by simpa using h
      rw [hd] at hc
      have HC := Hid.mk hc
      clear hc h hd hn
      go_enter Tryd.func33, Tryd.ntmps33
      go_wp2_with fail
      refine HI.out.mono ?_
      rintro e w1 ⟨rfl, hw⟩
      subst hw
      go_wp2_with fail
      refine HC.out.mono ?_
      rintro e w2 ⟨rfl, hw2⟩
      subst hw2
      go_wp2_with fail
      go_ret2
      exact ⟨rfl, rfl⟩
    · rw [if_neg h, if_neg h]
      have hd : decide (v ∈ xs.drop (l + 1)) = false := by simpa using h
      rw [hd] at hc
      have HC := Hid.mk hc
      clear hc h hd hn
      go_enter Tryd.func33, Tryd.ntmps33
      go_wp2_with fail
      refine HI.out.mono ?_
      rintro e w1 ⟨rfl, hw⟩
      subst hw
      go_wp2_with fail
      refine HC.out.mono ?_
      rintro e w2 ⟨rfl, hw2⟩
      subst hw2
      go_wp2_with fail
      go_ret2
      exact ⟨rfl, rfl⟩
end Bw
end Go.Proofs.YtdhmjbnpdmneiadDoor

/- Variables of one cell, and worlds of which only some blocks have turned; none walks a function. -/
namespace Go.Proofs.YtdhmjbnpdmneiadDoor
open Go.ChangeShapes Go.WideShapes Go.ChangeAt Go.RowKit
namespace Bw
/-- a variable of one cell -/
def BoxAt (w : World) (g : Nat) (t : TypeId) (v : Value) : Prop := w.heap[g]? = some (.cells #[v] t (0, 0))
theorem BoxAt.lt {w : World} {g : Nat} {t : TypeId} {v : Value} (h : BoxAt w g t v) : g < w.heap.size := by
  rcases Nat.lt_or_ge g w.heap.size with h' | h'
  · exact h'
  · unfold BoxAt at h; rw [Array.getElem?_eq_none h'] at h; cases h
theorem BoxAt.cell {w : World} {g : Nat} {t : TypeId} {v : Value} (h : BoxAt w g t v) : w.cell? ⟨g, 0, none⟩ = some v := by
  rw [cell_of_row w g 0 _ _ _ h]; rfl
theorem BoxAt.frozen {w : World} {g : Nat} {t : TypeId} {v : Value} (h : BoxAt w g t v) : w.frozen? ⟨g, 0, none⟩ = false := frozen_of_row w g 0 _ _ h
theorem BoxAt.kept {w w' : World} {g : Nat} {t : TypeId} {v : Value} (h : BoxAt w g t v) (hb : Below w.heap.size w w') : BoxAt w' g t v := by
  unfold BoxAt; rw [hb.block g h.lt]; exact h
theorem BoxAt.set {w : World} {g : Nat} {t : TypeId} {v : Value} (h : BoxAt w g t v) (u : Value) : BoxAt (w.setCell ⟨g, 0, none⟩ u) g t u := heap_setCell_same w g 0 _ t u h
theorem BoxAt.other {w : World} {g k : Nat} {t : TypeId} {v : Value} (h : BoxAt w g t v) (u : Value) (hk : g ≠ k) : BoxAt (w.setCell ⟨k, 0, none⟩ u) g t v := by
  unfold BoxAt; rw [Below.heap_setCell _ _ _ _ hk]; exact h
/-- of what was there only these blocks have turned -/
structure Tch (gs : List Nat) (w w' : World) : Prop where
  os : w'.os = w.os
  tape : w'.tape = w.tape
  output : w'.output = w.output
  size : w.heap.size ≤ w'.heap.size
  block : ∀ k, k < w.heap.size → k ∉ gs → w'.heap[k]? = w.heap[k]?
theorem Tch.refl (gs : List Nat) (w : World) : Tch gs w w := ⟨rfl, rfl, rfl, Nat.le_refl _, fun _ _ _ => rfl⟩
theorem Tch.of {gs : List Nat} {w w' : World} (h : Below w.heap.size w w') : Tch gs w w' := ⟨h.os, h.tape, h.output, h.size, fun k hk _ => h.block k hk⟩
theorem Tch.trans {gs : List Nat} {w a b : World} (h1 : Tch gs w a) (h2 : Tch gs a b) : Tch gs w b :=
  ⟨h2.os.trans h1.os, h2.tape.trans h1.tape, h2.output.trans h1.output, Nat.le_trans h1.size h2.size, fun k hk hg => (h2.block k (Nat.lt_of_lt_of_le hk h1.size) hg).trans (h1.block k hk hg)⟩
theorem Tch.set {gs : List Nat} {w a : World} (h : Tch gs w a) {g : Nat} (hg : g ∈ gs) (u : Value) : Tch gs w (a.setCell ⟨g, 0, none⟩ u) :=
  h.trans ⟨rfl, rfl, rfl, by simp [World.setCell], fun k _ hk => Below.heap_setCell _ _ _ _ (fun e => hk (e ▸ hg))⟩
theorem Tch.setK {gs : List Nat} {w a : World} (h : Tch gs w a) {g : Nat} (hg : g ∈ gs) (k : Nat) (u : Value) : Tch gs w (a.setCell ⟨g, k, none⟩ u) :=
  h.trans ⟨rfl, rfl, rfl, by simp [World.setCell], fun q _ hq => Below.heap_setCell _ _ _ _ (fun e => hq (e ▸ hg))⟩
theorem Tch.below {gs : List Nat} {w a b : World} {B : Nat} (h : Below B w a) (ht : Tch gs a b) (hg : ∀ g ∈ gs, B ≤ g) (hB : B ≤ w.heap.size) : Below B w b :=
  ⟨ht.os.trans h.os, ht.tape.trans h.tape, ht.output.trans h.output, Nat.le_trans h.size ht.size, fun k hk => (ht.block k (by have := h.size; omega) (fun e => by have := hg k e; omega)).trans (h.block k hk)⟩
theorem Tch.box {gs : List Nat} {w w' : World} (ht : Tch gs w w') {g : Nat} {t : TypeId} {v : Value} (h : BoxAt w g t v) (hg : g ∉ gs) : BoxAt w' g t v := by
  unfold BoxAt; rw [ht.block g h.lt hg]; exact h

end Bw
end Go.Proofs.YtdhmjbnpdmneiadDoor

/- An answer of three: a row, a number, an error. -/
namespace Go.Proofs.YtdhmjbnpdmneiadDoor
namespace Bw
def takeV (A : List UInt8 × Nat × Int) : Value := .tuple #[.string ⟨A.1.toArray⟩, .int .i64 A.2.1, .int .i64 A.2.2]
end Bw
end Go.Proofs.YtdhmjbnpdmneiadDoor
