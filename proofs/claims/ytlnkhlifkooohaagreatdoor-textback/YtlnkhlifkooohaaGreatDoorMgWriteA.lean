/- What message.Write answers. -/
import Derived.Test.YtlnkhlifkooohaaGreatDoorMgFillA
namespace Go.Proofs.YtlnkhlifkooohaaGreatDoor
open Go.ChangeShapes Go.WideShapes Go.ChangeAt Go.RowKit
namespace Bw
open Sm
/-- have two one name? -/
def dupE (l : List Rd) : Int := firstE (fun i => firstE (fun j => if (rdAt l j).nm = (rdAt l i).nm then 9 else 0) i) l.length
theorem dupE_zero {l : List Rd} : dupE l = 0 ↔ NoTwo l := by
  constructor
  · intro h i j hij hj e
    have h1 := firstE_zero (firstE_zero h j hj) i hij
    simp only [e, if_true] at h1
    omega
  · intro h
    refine firstE_all (fun i hi => firstE_all (fun j hj => ?_))
    simp only [if_neg (h j i hj hi)]
/-- the error of Write -/
def writeE (m : Msg) (l : List Rd) : Int :=
  if chkM m ≠ 0 then chkM m else if dupE l ≠ 0 then 9 else if (fillE (putW l) m).1 ≠ 0 then (fillE (putW l) m).1 else if (usedL (putW l) m).length < l.length then 8 else 0
def zF : Value := frameV 0 false false false 0 none 0 0
def WriteP (E : Int) (id : Int) (lo : Bool) (n8 : Nat) (d : List UInt8) (w : World) (e : Ending) (w' : World) : Prop :=
  Below w.heap.size w w' ∧ ((E ≠ 0 ∧ e = .returned (.tuple #[zF, .int .i64 E])) ∨ (E = 0 ∧ ∃ a c, e = .returned (.tuple #[frameV id lo false false 0 a n8 c, .int .i64 0]) ∧ IsBytes w' a n8 c d))
theorem mw_res (tmps : Array Value) (w : World) (g : Nat) (c0 c1 c2 c3 c4 c5 y : Value) (hp : tmps.getD 4 undef = .pointer (some ⟨g, 0, none⟩)) (hy : tmps.getD 5 undef = y) (h : Six w g c0 c1 c2 c3 c4 c5) :
    (results Tryz.f7 tmps).run Tryz.prog w = .ok (.tuple #[.agg #[c0, c1, c2, c3, c4, c5], y]) w := by
  have hl := run_loadVar_row (P := Tryz.prog) w g 28 28 #[c0, c1, c2, c3, c4, c5] (0, 0) _ h Tryz.underlying28 rfl (by rw [fr_i]; rfl)
  have hp' : tmps[4]?.getD undef = .pointer (some ⟨g, 0, none⟩) := by simpa using hp
  have hy' : tmps[5]?.getD undef = y := by simpa using hy
  simp [results, hp', hy', asAddr, hl]
theorem enter_putW : ∀ args w, (callFunc 30 args).run Tryz.prog w = .ok (.enter 30 args) w := enters_of Tryz.func30 (by kernel_rfl) rfl
/-- bytes whose cells are numbers stand while a frame's variable is written -/
theorem bytes_six {w : World} {g : Nat} {i0 i4 : Int} {b1 b2 b3 : Bool} {sa : Option Addr} {sn sc : Nat} (h : Six w g (.int .i64 i0) (.bool b1) (.bool b2) (.bool b3) (.int .i64 i4) (.slice sa sn sc)) {a : Option Addr} {len cap : Nat} {l : List UInt8} (hB : IsBytes w a len cap l) (d0 d1 d2 d3 d4 d5 : Value) :
    IsBytes ((((((w.setCell ⟨g, 0, none⟩ d0).setCell ⟨g, 1, none⟩ d1).setCell ⟨g, 2, none⟩ d2).setCell ⟨g, 3, none⟩ d3).setCell ⟨g, 4, none⟩ d4).setCell ⟨g, 5, none⟩ d5) a len cap l := by
  refine ⟨hB.1, hB.2.1, hB.2.2.1, hB.2.2.2.1, fun x hx i hi => ?_⟩
  have h1 := hB.2.2.2.2 x hx i hi
  have hb : (x.add i).block = x.block := by unfold Addr.add; split <;> rfl
  have hn : (x.add i).block ≠ g := by
    intro e
    have h4 := h1
    unfold World.cell? at h4
    unfold Six at h
    rw [e, h] at h4
    simp only at h4
    generalize (x.add i).off = o at h4
    rcases o with _ | _ | _ | _ | _ | _ | o <;> simp at h4
  unfold World.cell? at h1 ⊢
  rw [Below.heap_setCell _ _ _ _ hn, Below.heap_setCell _ _ _ _ hn, Below.heap_setCell _ _ _ _ hn, Below.heap_setCell _ _ _ _ hn, Below.heap_setCell _ _ _ _ hn, Below.heap_setCell _ _ _ _ hn]
  exact h1
set_option maxHeartbeats 8000000 in
set_option maxRecDepth 100000 in
theorem mwrite_bad (v : MsV) (a : Option Addr) (n c : Nat) (l : List Rd) (n8 : Nat) (d : List UInt8) (w : World) (hM : MsIn w v) (hS : SizesAt w) (hE : chkM v.m ≠ 0) :
    Calls Tryz.prog 7 #[msV v, .slice a n c] w (WriteP (writeE v.m l) v.m.id v.m.lo n8 d w) := by
  have HR : Hid (writeE v.m l = chkM v.m) := Hid.mk (by unfold writeE; rw [if_pos hE])
  have HB0 := Hid.mk (six_B0 w v)
  have HS0 := Hid.mk (six_S0 w v)
  have HC := Hid.mk (mcheck_any v _ (hM.kept HB0.out) (hS.kept HB0.out))
  generalize writeE v.m l = WE at *
  generalize chkM v.m = E at *
  obtain ⟨⟨mid, mlo, mnm, size, mch, sigs⟩, ma, mn, mcap⟩ := v
  unfold msC at HB0 HS0 HC
  unfold msV at HC ⊢
  simp only at HB0 HS0 HC ⊢
  have hne : (E != 0) = true := by simpa using hE
  have HE := Hid.mk hE
  clear hM hS hE
  go_enter Tryz.func7, Tryz.ntmps7
  go_wp2_with fail
  refine HC.out.mono ?_
  rintro e w1 ⟨rfl, hb1⟩
  have HB1 := Hid.mk (bl2 HB0.out hb1)
  have HS1 := Hid.mk (HS0.out.kept hb1)
  clear hb1
  obtain ⟨⟨z0, z1, z2, z3, z4, z5⟩, y0, y1, y2, y3, y4, y5⟩ := HS1.out.cells
  obtain ⟨⟨p1, q1⟩, ⟨p2, q2⟩, ⟨p3, q3⟩, ⟨p4, q4⟩, ⟨p5, q5⟩, hSX⟩ := HS1.out.store (.int .i64 0) (.bool false) (.bool false) (.bool false) (.int .i64 0) (.slice none 0 0)
  have HSX := Hid.mk hSX
  clear hSX
  go_wp2_with fail
  refine bodyPost_ret (mw_res _ _ (w.heap.size + 1) _ _ _ _ _ _ _ rfl rfl HSX.out) rfl ?_
  refine ⟨six_B HB1.out (Nat.le_succ _) _ _ _ _ _ _, .inl ?_⟩
  exact ⟨by rw [HR.out]; exact HE.out, by rw [HR.out]; rfl⟩
end Bw
end Go.Proofs.YtlnkhlifkooohaaGreatDoor
namespace Go.Proofs.YtlnkhlifkooohaaGreatDoor
open Go.ChangeShapes Go.WideShapes Go.ChangeAt Go.RowKit
namespace Bw
open Sm
set_option maxHeartbeats 16000000 in
set_option maxRecDepth 100000 in
theorem mwrite_ok (v : MsV) (a : Option Addr) (n c : Nat) (l : List Rd) (n8 : Nat) (w : World) (hM : MsIn w v) (hS : SizesAt w) (hF : IsRds w a n c l) (hnm : ∀ r ∈ l, r.nm.size ≤ maxLen) (hE : chkM v.m = 0) (hn8 : v.m.size = n8) :
    Calls Tryz.prog 7 #[msV v, .slice a n c] w (WriteP (writeE v.m l) v.m.id v.m.lo n8 (fillE (putW l) v.m).2 w) := by
  have hO := chkM_ok hE
  have HR : Hid (writeE v.m l = if dupE l ≠ 0 then 9 else if (fillE (putW l) v.m).1 ≠ 0 then (fillE (putW l) v.m).1 else if (usedL (putW l) v.m).length < l.length then 8 else 0) := Hid.mk (by unfold writeE; rw [if_neg (by rw [hE]; simp)])
  have HB0 := Hid.mk (six_B0 w v)
  have HS0 := Hid.mk (six_S0 w v)
  have HM0 := Hid.mk (six_M0 w v)
  have hC := mcheck_any v _ (hM.kept HB0.out) (hS.kept HB0.out)
  rw [hE] at hC
  have HC := Hid.mk hC
  have HBN := Hid.mk (fun W (hb : Below w.heap.size w W) => byName_any a n c l W (hF.kept hb) hnm)
  have HFL := Hid.mk (fun g bm W (hb : Below w.heap.size w W) (hI : WrI l g bm W []) => fill_any 30 #[.pointer (some ⟨g, 0, none⟩)] enter_putW (putW l) (WrI l g bm) bm v n8 W (hM.kept hb) hO hn8
    (fun W used s a c d hI hs hnu hD => putW_any l s g bm used a n8 c d W hI (hM.wf s hs) (by
      obtain ⟨i, hi, rfl⟩ := List.getElem_of_mem hs
      have := hO.sig hi
      unfold Msg.at at this
      rw [getD_at hi] at this
      exact nm_small this) hnu hD (by
      obtain ⟨i, hi, rfl⟩ := List.getElem_of_mem hs
      have := hO.sig hi
      unfold Msg.at at this
      rw [getD_at hi, hn8] at this
      exact this))
    (fun W W' used h hb => h.kept hb) (fun W used h => by
      obtain ⟨_, k, D, h1, _⟩ := h
      exact h1.map) hI)
  have hlen : l.length = n := hF.len
  have HLEN := Hid.mk hlen
  have hn63 : (n : Int) ≤ 9223372036854775807 := by have h1 := hF.le; have h2 := hF.max; unfold maxLen at h2; omega
  generalize writeE v.m l = WE at *
  generalize fillE (putW l) v.m = FE at *
  generalize usedL (putW l) v.m = UL at *
  obtain ⟨⟨mid, mlo, mnm, size, mch, sigs⟩, ma, mn, mcap⟩ := v
  unfold msC at HB0 HS0 HC HM0
  unfold msV at HC HFL ⊢
  simp only at HB0 HS0 HC HM0 HFL hn8 ⊢
  subst hn8
  clear hM hS hF hnm hE hC hO hlen
  go_enter Tryz.func7, Tryz.ntmps7
  go_wp2_with fail
  refine HC.out.mono ?_
  rintro e w1 ⟨rfl, hb1⟩
  have HB1 := Hid.mk (bl2 HB0.out hb1)
  have HS1 := Hid.mk (HS0.out.kept hb1)
  have HM1 := Hid.mk (HM0.out.kept hb1)
  clear hb1 HC HB0 HS0 HM0
  go_wp2_with fail
  refine (HBN.out _ HB1.out).mono ?_
  rintro e w2 ⟨rfl, ⟨D, hMap, hTold⟩, hb2⟩
  have HB2 := Hid.mk (bl2 HB1.out hb2)
  have HS2 := Hid.mk (HS1.out.kept hb2)
  have HM2 := Hid.mk (HM1.out.kept hb2)
  have HA2 := Hid.mk (awB1 w2 (.cells #[.map (some w1.heap.size)] 61))
  have HB3 := Hid.mk (bl2 HB2.out HA2.out)
  have HS3 := Hid.mk (HS2.out.kept HA2.out)
  have HM3 := Hid.mk (HM2.out.kept HA2.out)
  have HMAP := Hid.mk (hMap.kept HA2.out)
  have HTOLD := Hid.mk hTold
  have HBM : Hid (w.heap.size ≤ w1.heap.size) := Hid.mk HB1.out.size
  have hg : (w2.alloc (.cells #[.map (some w1.heap.size)] 61)).cell? ⟨w2.heap.size, 0, none⟩ = some (.map (some w1.heap.size)) := cell_of_row _ _ 0 _ _ _ (heap_alloc_new w2 _)
  have HG := Hid.mk hg
  obtain ⟨m0, m1, m2, m3, m4, m5⟩ := HM3.out
  simp only at m0 m1 m2 m3 m4 m5
  have hsle := hTold.le
  have hseq := hTold.eq
  rw [HLEN.out] at hsle hseq
  obtain ⟨sz, hsz⟩ : ∃ sz, sz = Maps.size D := ⟨_, rfl⟩
  have HSZ := Hid.mk hsz
  rw [← hsz] at hsle hseq
  have hszb : (sz : Int) ≤ 9223372036854775807 := by omega
  clear hMap hTold hb2 HBN HM2 HM1 HS1 HS2 HB2 HB1 hsz
  have hdz : dupE l = 0 ↔ NoTwo l := dupE_zero
  have HDZ := Hid.mk hdz
  clear hdz
  by_cases hno : dupE l = 0
  case neg =>
    have hlt : sz < n := by
      rcases Nat.lt_or_ge sz n with h | h
      · exact h
      · exact absurd (HDZ.out.2 (hseq.1 (by omega))) hno
    have hlt' : (sz : Int) < (n : Int) := by omega
    have HV : Hid (WE = 9) := Hid.mk (by rw [HR.out, if_pos hno])
    clear hseq hsle HR hno
    obtain ⟨⟨z0, z1, z2, z3, z4, z5⟩, y0, y1, y2, y3, y4, y5⟩ := HS3.out.cells
    obtain ⟨⟨p1, q1⟩, ⟨p2, q2⟩, ⟨p3, q3⟩, ⟨p4, q4⟩, ⟨p5, q5⟩, hSX⟩ := HS3.out.store (.int .i64 0) (.bool false) (.bool false) (.bool false) (.int .i64 0) (.slice none 0 0)
    have HSX := Hid.mk hSX
    clear hSX
    go_wp2_with (at_len; refine wpList_len_own _ rfl _ 61 rfl 9 44 Tryz.underlying61 RV w1.heap.size n D rfl HMAP.out ?_; rw [← HSZ.out])
    refine bodyPost_ret (mw_res _ _ (w.heap.size + 1) _ _ _ _ _ _ _ rfl rfl HSX.out) rfl ?_
    refine ⟨six_B HB3.out (Nat.le_succ _) _ _ _ _ _ _, .inl ?_⟩
    exact ⟨by rw [HV.out]; decide, by rw [HV.out]; rfl⟩
  case pos =>
    have hnoT := HDZ.out.1 hno
    have hge : sz = n := hseq.2 hnoT
    have hge' : (n : Int) ≤ (sz : Int) := by omega
    have HLT := Hid.mk (HTOLD.out.left hnoT)
    have HR1 : Hid (WE = if FE.1 ≠ 0 then FE.1 else if UL.length < l.length then 8 else 0) := Hid.mk (by rw [HR.out, if_neg (by rw [hno]; simp)])
    have HFI := Hid.mk (HFL.out w2.heap.size w1.heap.size _ HB3.out ⟨HG.out, n, D, HMAP.out, HLT.out⟩)
    clear hseq hsle HR hge HFL hno hnoT
    go_wp2_with (at_len; refine wpList_len_own _ rfl _ 61 rfl 9 44 Tryz.underlying61 RV w1.heap.size n D rfl HMAP.out ?_; rw [← HSZ.out])
    refine HFI.out.mono ?_
    rintro e w4 ⟨hG4, hcase⟩
    have HG4 := Hid.mk hG4
    have HB4 := Hid.mk (HB3.out.grown hG4.grown HB3.out.size (fun j hj => by cases hj; exact HBM.out))
    have HS4 := Hid.mk (HS3.out.keptG hG4)
    have HM4 := Hid.mk (HM3.out.keptC hG4.ck)
    obtain ⟨m0, m1, m2, m3, m4, m5⟩ := HM4.out
    simp only at m0 m1 m2 m3 m4 m5
    have hgc := hG4.ck _ _ HG.out
    clear hG4 HFI
    rcases hcase with ⟨hne, rfl⟩ | ⟨hz, a', c', rfl, hB', hI'⟩
    · have hne' : (FE.1 != 0) = true := by simpa using hne
      have HV : Hid (WE = FE.1) := Hid.mk (by rw [HR1.out, if_pos hne])
      have HNE := Hid.mk hne
      clear hne
      obtain ⟨⟨z0, z1, z2, z3, z4, z5⟩, y0, y1, y2, y3, y4, y5⟩ := HS4.out.cells
      obtain ⟨⟨p1, q1⟩, ⟨p2, q2⟩, ⟨p3, q3⟩, ⟨p4, q4⟩, ⟨p5, q5⟩, hSX⟩ := HS4.out.store (.int .i64 0) (.bool false) (.bool false) (.bool false) (.int .i64 0) (.slice none 0 0)
      have HSX := Hid.mk hSX
      clear hSX
      go_wp2_with fail
      refine bodyPost_ret (mw_res _ _ (w.heap.size + 1) _ _ _ _ _ _ _ rfl rfl HSX.out) rfl ?_
      refine ⟨six_B HB4.out (Nat.le_succ _) _ _ _ _ _ _, .inl ?_⟩
      exact ⟨by rw [HV.out]; exact HNE.out, by rw [HV.out]; rfl⟩
    · have HR2 : Hid (WE = if UL.length < l.length then 8 else 0) := Hid.mk (by rw [HR1.out, if_neg (by rw [hz]; simp)])
      obtain ⟨hgI, k, D', hMap', hLeft'⟩ := hI'
      have HMAP' := Hid.mk hMap'
      have hsize' := hLeft'.size
      obtain ⟨s2, hs2⟩ : ∃ s2, s2 = Maps.size D' := ⟨_, rfl⟩
      rw [← hs2, HLEN.out] at hsize'
      have HS2 := Hid.mk hs2
      have HB' := Hid.mk hB'
      have hs2b : (s2 : Int) ≤ 9223372036854775807 := by omega
      clear hz hB' hMap' hLeft' hs2 HR1 hgI
      by_cases hlt : UL.length < l.length
      · have HV : Hid (WE = 8) := Hid.mk (by rw [HR2.out, if_pos hlt])
        have hp0 : (0 : Int) < (s2 : Int) := by rw [HLEN.out] at hlt; omega
        obtain ⟨Z, hZ⟩ : ∃ Z : Int, Z = (s2 : Int) := ⟨_, rfl⟩
        have hp : 0 < Z := by rw [hZ]; exact hp0
        have hpz : Z ≤ 9223372036854775807 := by rw [hZ]; exact hs2b
        have HZ : Hid (((Maps.size D' : Nat) : Int) = Z) := Hid.mk (by rw [← HS2.out, hZ])
        clear hlt hsize' hp0 hZ hs2b
        obtain ⟨⟨z0, z1, z2, z3, z4, z5⟩, y0, y1, y2, y3, y4, y5⟩ := HS4.out.cells
        obtain ⟨⟨p1, q1⟩, ⟨p2, q2⟩, ⟨p3, q3⟩, ⟨p4, q4⟩, ⟨p5, q5⟩, hSX⟩ := HS4.out.store (.int .i64 0) (.bool false) (.bool false) (.bool false) (.int .i64 0) (.slice none 0 0)
        have HSX := Hid.mk hSX
        clear hSX
        go_wp2_with (at_len; refine wpList_len_own _ rfl _ 61 rfl 9 44 Tryz.underlying61 RV w1.heap.size k D' rfl HMAP'.out ?_; rw [HZ.out])
        refine bodyPost_ret (mw_res _ _ (w.heap.size + 1) _ _ _ _ _ _ _ rfl rfl HSX.out) rfl ?_
        refine ⟨six_B HB4.out (Nat.le_succ _) _ _ _ _ _ _, .inl ?_⟩
        exact ⟨by rw [HV.out]; decide, by rw [HV.out]; rfl⟩
      · have HV : Hid (WE = 0) := Hid.mk (by rw [HR2.out, if_neg hlt])
        have hp : s2 = 0 := by rw [HLEN.out] at hlt; omega
        subst hp
        clear hlt hsize'
        obtain ⟨⟨z0, z1, z2, z3, z4, z5⟩, y0, y1, y2, y3, y4, y5⟩ := HS4.out.cells
        obtain ⟨⟨p1, q1⟩, ⟨p2, q2⟩, ⟨p3, q3⟩, ⟨p4, q4⟩, ⟨p5, q5⟩, hSX⟩ := HS4.out.store (.int .i64 mid) (.bool mlo) (.bool false) (.bool false) (.int .i64 0) (.slice a' n8 c')
        have HSX := Hid.mk hSX
        have HBX : Hid (IsBytes (((((((w4.setCell ⟨w.heap.size + 1, 0, none⟩ (.int .i64 mid))).setCell ⟨w.heap.size + 1, 1, none⟩ (.bool mlo)).setCell ⟨w.heap.size + 1, 2, none⟩ (.bool false)).setCell ⟨w.heap.size + 1, 3, none⟩ (.bool false)).setCell ⟨w.heap.size + 1, 4, none⟩ (.int .i64 0)).setCell ⟨w.heap.size + 1, 5, none⟩ (.slice a' n8 c')) a' n8 c' FE.2) := Hid.mk (bytes_six HS4.out HB'.out _ _ _ _ _ _)
        clear hSX
        go_wp2_with (at_len; refine wpList_len_own _ rfl _ 61 rfl 9 44 Tryz.underlying61 RV w1.heap.size k D' rfl HMAP'.out ?_; rw [← HS2.out])
        refine bodyPost_ret (mw_res _ _ (w.heap.size + 1) _ _ _ _ _ _ _ rfl rfl HSX.out) rfl ?_
        refine ⟨six_B HB4.out (Nat.le_succ _) _ _ _ _ _ _, .inr ⟨HV.out, a', c', rfl, HBX.out⟩⟩
end Bw
end Go.Proofs.YtlnkhlifkooohaaGreatDoor
