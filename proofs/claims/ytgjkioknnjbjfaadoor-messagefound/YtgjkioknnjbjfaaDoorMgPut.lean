/- What Write's own way of putting a signal answers. -/
import Derived.Test.YtgjkioknnjbjfaaDoorMgName
namespace Go.Proofs.YtgjkioknnjbjfaaDoor
open Go.ChangeShapes Go.WideShapes Go.ChangeAt Go.RowKit
namespace Bw
open Sm
/-- every cell stands -/
def CK (w w' : World) : Prop := ∀ a v, w.cell? a = some v → w'.cell? a = some v
theorem CK.refl (w : World) : CK w w := fun _ _ h => h
theorem CK.trans {a b c : World} (h : CK a b) (h' : CK b c) : CK a c := fun x v hx => h' x v (h x v hx)
theorem CK.below {w w' : World} (h : Below w.heap.size w w') : CK w w' := fun _ _ hx => cell_kept h hx
theorem SgAt.keptC {w w' : World} {g : Nat} {s : Sig} (h : SgAt w g s) (hb : CK w w') : SgAt w' g s :=
  ⟨hb _ _ h.c0, hb _ _ h.c1, hb _ _ h.c2, hb _ _ h.c3, hb _ _ h.c4, hb _ _ h.c5, hb _ _ h.c6, hb _ _ h.c7, hb _ _ h.c8⟩
theorem MsAt.keptC {w w' : World} {g : Nat} {v : MsV} (h : MsAt w g v) (hb : CK w w') : MsAt w' g v :=
  ⟨hb _ _ h.c0, hb _ _ h.c1, hb _ _ h.c2, hb _ _ h.c3, hb _ _ h.c4, hb _ _ h.c5⟩
theorem IsSigs.keptC {w w' : World} {a : Option Addr} {n cap : Nat} {l : List Sig} (h : IsSigs w a n cap l) (hb : CK w w') : IsSigs w' a n cap l :=
  ⟨h.len, h.le, h.max, h.none, fun x hx i hi k hk => by
    have h1 := h.cell x hx i hi k hk
    have h2 : k < (sgCl l[i]).length := hk
    rw [List.getElem?_eq_getElem h2] at h1 ⊢
    exact hb _ _ h1⟩
theorem IsRds.keptC {w w' : World} {a : Option Addr} {n cap : Nat} {l : List Rd} (h : IsRds w a n cap l) (hb : CK w w') : IsRds w' a n cap l :=
  ⟨h.len, h.le, h.max, h.none, fun x hx i hi k hk => by
    have h1 := h.cell x hx i hi k hk
    have h2 : k < (rdCl l[i]).length := hk
    rw [List.getElem?_eq_getElem h2] at h1 ⊢
    exact hb _ _ h1⟩
theorem MsIn.keptC {w w' : World} {v : MsV} (h : MsIn w v) (hb : CK w w') : MsIn w' v := ⟨h.nm, h.row.keptC hb, h.wf⟩
theorem bytesC {w w' : World} {a : Option Addr} {len cap : Nat} {l : List UInt8} (h : IsBytes w a len cap l) (hb : CK w w') : IsBytes w' a len cap l :=
  ⟨h.1, h.2.1, h.2.2.1, h.2.2.2.1, fun x hx i hi => hb _ _ (h.2.2.2.2 x hx i hi)⟩
/-- nothing but the map in block bm has turned -/
structure GM (bm : Nat) (w w' : World) : Prop where
  grown : w.grownBy w' (some bm)
  map : ∃ es cl, w.heap[bm]? = some (.map es cl)
theorem GM.ck {bm : Nat} {w w' : World} (h : GM bm w w') : CK w w' := fun a v hv => h.grown.cell hv (fun e => by
  obtain ⟨es, cl, hm⟩ := h.map
  have e1 : a.block = bm := by simpa using e
  subst e1
  simp [World.cell?, hm] at hv)
theorem GM.trans {bm : Nat} {a b c : World} (h : GM bm a b) (h' : GM bm b c) : GM bm a c :=
  ⟨⟨h'.grown.os.trans h.grown.os, h'.grown.tape.trans h.grown.tape, h'.grown.output.trans h.grown.output, Nat.le_trans h.grown.size h'.grown.size, fun k hk hne => (h'.grown.block k (Nat.lt_of_lt_of_le hk h.grown.size) hne).trans (h.grown.block k hk hne)⟩, h.map⟩
theorem GM.below {bm : Nat} {w w' : World} (hm : ∃ es cl, w.heap[bm]? = some (.map es cl)) (h : Below w.heap.size w w') : GM bm w w' :=
  ⟨⟨h.os, h.tape, h.output, h.size, fun k hk _ => h.block k hk⟩, hm⟩
theorem MapIs.map {w : World} {b n : Nat} {D : DV} (h : MapIs w b n D) : ∃ es cl, w.heap[b]? = some (.map es cl) := by
  obtain ⟨es, cl, hb, _⟩ := h
  exact ⟨es, cl, hb⟩
theorem MapIs.mapB {w w' : World} {b n : Nat} {D : DV} (h : MapIs w b n D) (hb : Below w.heap.size w w') : ∃ es cl, w'.heap[b]? = some (.map es cl) := (h.kept hb).map
/-- 'r, ok := m[k]' of a map of readings: what it gives is written out -/
theorem wpList_lookup_rd (w : World) {ops : Array Oper} {rest : List Oper} {o : Oper} {a : Act} {Q : Exit → Act → World → Prop} (hg : o.guard = none) (m x : Operand) (hop : o.op = Op.lookup 66 m x true)
    (b n : Nat) (D : DV) (hm : a.eval m = .map (some b)) (hown : MapIs w b n D) (key : Value) (kl : Lit) (hx : a.eval x = key) (hkey : keyOf Tryd.prog 9 key = some kl)
    (u : Value) (hb : Bool) (hu : D.atKey kl (.held (.agg #[.string ⟨#[]⟩, .int .i64 0, .int .i64 0])) = .held u) (hh : Maps.has D kl = hb)
    (hK : wpList Tryd.prog ops Q rest (a.put o.dst (.tuple #[u, .bool hb])) w) : wpList Tryd.prog ops Q (o :: rest) a w :=
  wpList_lookup_own_ok w hg m x 66 hop 9 43 str_law Tryd.underlying66 RV (zero_rd w) (.held (.agg #[.string ⟨#[]⟩, .int .i64 0, .int .i64 0])) [] rfl b n D hm hown key kl hx hkey (fun v ps hv => by
    rw [hu] at hv
    unfold RV at hv
    simp only [Option.some.injEq, Prod.mk.injEq, DataW.held.injEq] at hv
    rw [hv.1, hh]
    exact hK)
def wrD (s : Sig) (d : List UInt8) (num den : Int) : List UInt8 := wrS s s.st.toNat s.sz.toNat d (rawV s num den)
def rwE (s : Sig) (num den : Int) : Int := rawE s s.sz.toNat num den
theorem wrD_len (s : Sig) (d : List UInt8) (num den : Int) : (wrD s d num den).length = d.length := wrK_length _ _ _ _
theorem isBytes_ownM {w : World} {base g n c : Nat} {l : List UInt8} (h : w.ownsRow base 5 1 (.slice (some ⟨g, 0, none⟩) n c) n (cellsOf l)) : IsBytes w (some ⟨g, 0, none⟩) n c l := by
  have h0 := h
  obtain ⟨hl, h2⟩ := h
  have hn : l.length = n := by simpa [cellsOf] using hl
  rcases h2 with ⟨h3, _⟩ | ⟨g', cap, cur, hv, hg, hh, hc, hm, hsz, htk⟩
  · cases h3
  · cases hv
    refine ⟨hn, hc, hm, (fun h => by cases h), fun x hx i hi => ?_⟩
    cases hx
    exact h0.cells rfl i _ (by simp [cellsOf, hn, hi])
/-- signal.Write of a right signal -/
theorem swrite_is (s : Sig) (a : Option Addr) (len cap : Nat) (l : List UInt8) (num den : Int) (w : World) (h : wfS s) (hD : IsBytes w a len cap l) (hE : chkS s len = 0) :
    Calls Tryd.prog 40 #[sgV s, .slice a len cap, .int .i64 num, .int .i64 den] w fun e w' => Below w.heap.size w w' ∧
      ((rwE s num den ≠ 0 ∧ e = .returned (.tuple #[.slice none 0 0, .int .i64 (rwE s num den)])) ∨
       (rwE s num den = 0 ∧ ∃ a' c, e = .returned (.tuple #[.slice a' len c, .int .i64 0]) ∧ IsBytes w' a' len c (wrD s l num den))) := by
  obtain ⟨st, sz, hR⟩ := right_of hE
  have e1 : rwE s num den = rawE s sz num den := by unfold rwE; rw [hR.hsz, Int.toNat_natCast]
  have e2 : wrD s l num den = wrS s st sz l (rawV s num den) := by unfold wrD; rw [hR.hst, hR.hsz, Int.toNat_natCast, Int.toNat_natCast]
  rw [e1, e2]
  by_cases hX : rawE s sz num den = 0
  · refine (swrite_ok s st sz a len cap l num den w h hD hE hR hX).mono ?_
    rintro e w' ⟨g, c, h1, h2, h3⟩
    exact ⟨h3, .inr ⟨hX, _, c, h1, isBytes_ownM h2⟩⟩
  · refine (swrite_raw s st sz a len cap num den w h hE hR hX).mono ?_
    rintro e w' ⟨h1, h2⟩
    exact ⟨h2, .inl ⟨hX, h1⟩⟩
/-- what Write's own way of putting a signal does -/
def putW (l : List Rd) (s : Sig) (d : List UInt8) : Int × List UInt8 :=
  match findR l s.nm with
  | none => (14, [])
  | some r => if rwE s r.num r.den = 0 then (0, wrD s d r.num r.den) else (rwE s r.num r.den, [])
/-- the variable told holds the map, from which the names 'used' are taken out -/
def WrI (l : List Rd) (g bm : Nat) (w : World) (used : List ByteArray) : Prop := w.cell? ⟨g, 0, none⟩ = some (.map (some bm)) ∧ ∃ n D, MapIs w bm n D ∧ Left D l used
theorem WrI.kept {l : List Rd} {g bm : Nat} {w w' : World} {used : List ByteArray} (h : WrI l g bm w used) (hb : Below w.heap.size w w') : WrI l g bm w' used := by
  obtain ⟨h1, n, D, h2, h3⟩ := h
  exact ⟨cell_kept hb h1, n, D, h2.kept hb, h3⟩
theorem put_box (w : World) (s : Sig) (nm : ByteArray) (n d : Int) : Below w.heap.size w ((w.alloc (sgC s)).alloc (.cells #[.string nm, .int .i64 n, .int .i64 d] 43)) := ((Below.refl _ _).alloc (Nat.le_refl _) _).alloc (by simp) _
theorem put_rd (w : World) (s : Sig) (nm : ByteArray) (n d : Int) : ((w.alloc (sgC s)).alloc (.cells #[.string nm, .int .i64 n, .int .i64 d] 43)).cell? ⟨w.heap.size + 1, 1, none⟩ = some (.int .i64 n) ∧ ((w.alloc (sgC s)).alloc (.cells #[.string nm, .int .i64 n, .int .i64 d] 43)).cell? ⟨w.heap.size + 1, 2, none⟩ = some (.int .i64 d) := by
  have h := rd_cells (w.alloc (sgC s)) nm n d
  rw [show (w.alloc (sgC s)).heap.size = w.heap.size + 1 by simp] at h
  exact ⟨h.2.1, h.2.2⟩
/-- what a way of putting a signal answers -/
def PutP (p : Int × List UInt8) (Iv : World → Prop) (bm len : Nat) (w : World) (e : Ending) (w' : World) : Prop :=
  Hid (GM bm w w') ∧ ((∃ u, e = .returned (.tuple #[u, .int .i64 p.1]) ∧ (p.1 != 0) = true) ∨ (∃ a' c, e = .returned (.tuple #[.slice a' len c, .int .i64 0]) ∧ Hid (p.1 = 0 ∧ IsBytes w' a' len c p.2 ∧ Iv w')))
set_option maxHeartbeats 8000000 in
set_option maxRecDepth 100000 in
theorem putW_any (l : List Rd) (s : Sig) (g bm : Nat) (used : List ByteArray) (a : Option Addr) (len cap : Nat) (d : List UInt8) (w : World) (hI : WrI l g bm w used) (h : wfS s) (hnm : s.nm.size ≤ maxLen) (hu : s.nm ∉ used) (hD : IsBytes w a len cap d) (hE : chkS s len = 0) :
    Calls Tryd.prog 39 #[sgV s, .slice a len cap, .pointer (some ⟨g, 0, none⟩)] w fun e w' => PutP (putW l s d) (fun w' => WrI l g bm w' (used ++ [s.nm])) bm len w e w' := by
  obtain ⟨hg, n, D, hM, hL⟩ := hI
  have HBX := Hid.mk (sg_box w s)
  have HSA := Hid.mk (SgAt.box w s)
  have hg1 := cell_kept HBX.out hg
  have HM1 := Hid.mk (hM.kept HBX.out)
  have HMB := Hid.mk hM.map
  have HKEY := Hid.mk (key_is hnm)
  have HG := Hid.mk hg
  cases hf : findR l s.nm with
  | none =>
    have hp : putW l s d = (14, []) := by unfold putW; rw [hf]
    rw [hp]
    have HH := Hid.mk (hL.none s.nm hf)
    have HU := Hid.mk (Maps.atKey_of_not_has (hL.none s.nm hf) (DataW.held (.agg #[.string ⟨#[]⟩, .int .i64 0, .int .i64 0] : Value)))
    have HB2 := Hid.mk (put_box w s ⟨#[]⟩ 0 0)
    clear hp hg hM hL h hnm hu hD hE hf
    obtain ⟨nm, st, sz, bk, sg, mu, di, ad, ky⟩ := s
    unfold sgC at HBX HSA hg1 HM1 HB2
    unfold sgV
    simp only at HBX HSA hg1 HM1 HB2 HKEY HH HU ⊢
    go_enter Tryd.func39, Tryd.ntmps39
    go_wp2_with (at_lookup; refine wpList_lookup_rd _ rfl _ _ rfl bm n D rfl HM1.out _ _ rfl HKEY.out _ _ HU.out HH.out ?_)
    go_ret2
    exact ⟨Hid.mk (GM.below HMB.out HB2.out), .inl ⟨_, rfl, by decide⟩⟩
  | some r =>
    have hhas := hL.some s.nm r hf hu
    have hT := hL.take hf hu
    have hp : putW l s d = if rwE s r.num r.den = 0 then (0, wrD s d r.num r.den) else (rwE s r.num r.den, []) := by unfold putW; rw [hf]
    have HP := Hid.mk hp
    have HH := Hid.mk hhas.1
    have HU := Hid.mk (hhas.2 (DataW.held (.agg #[.string ⟨#[]⟩, .int .i64 0, .int .i64 0] : Value)))
    have HB2 := Hid.mk (put_box w s r.nm r.num r.den)
    have HRC := Hid.mk (put_rd w s r.nm r.num r.den)
    have HM2 := Hid.mk (hM.kept HB2.out)
    have hg2 := cell_kept HB2.out hg
    have HSA2 := Hid.mk (HSA.out.kept (awB1 _ (.cells #[.string r.nm, .int .i64 r.num, .int .i64 r.den] 43)))
    have HT := Hid.mk hT
    have HDD := Hid.mk (bytesC hD (CK.below HB2.out))
    have HW := Hid.mk (fun W (hb : IsBytes W a len cap d) => swrite_is s a len cap d r.num r.den W h hb hE)
    clear hp hg hM hL h hnm hu hD hE hf hhas hT
    generalize putW l s d = PW at *
    generalize rwE s r.num r.den = RE at *
    generalize wrD s d r.num r.den = WD at *
    obtain ⟨nm, st, sz, bk, sg, mu, di, ad, ky⟩ := s
    obtain ⟨rnm, rnum, rden⟩ := r
    unfold rdVal at HU
    unfold sgC at HBX HSA hg1 HM1 HB2 HRC HM2 hg2 HSA2 HDD
    unfold sgV at HW ⊢
    simp only at HBX HSA hg1 HM1 HB2 HKEY HH HU HRC HM2 hg2 HSA2 HDD HT HW ⊢
    go_enter Tryd.func39, Tryd.ntmps39
    go_wp2_with (first | (at_lookup; refine wpList_lookup_rd _ rfl _ _ rfl bm n D rfl HM1.out _ _ rfl HKEY.out _ _ HU.out HH.out ?_) | (at_delete; refine wpList_delete_own _ rfl _ _ 66 9 rfl 43 str_law Tryd.underlying66 RV bm n D rfl HM2.out _ _ rfl HKEY.out ?_; intro w1 hown1 hturn1; have HO1 := Hid.mk hown1; have HG1 := Hid.mk (show GM bm _ w1 from ⟨hturn1.grown, HM2.out.map⟩); obtain ⟨s0, s1, s2, s3, s4, s5, s6, s7, s8⟩ := HSA2.out.keptC HG1.out.ck; have r1 := HG1.out.ck _ _ HRC.out.1; have r2 := HG1.out.ck _ _ HRC.out.2; have HGG := Hid.mk (HG1.out.ck _ _ hg2); have HD1 := Hid.mk (bytesC HDD.out HG1.out.ck); clear hown1 hturn1; simp only at s0 s1 s2 s3 s4 s5 s6 s7 s8))
    refine (HW.out _ HD1.out).mono ?_
    rintro e w2 ⟨hb2, hcase⟩
    have HGM := Hid.mk ((GM.below HMB.out HB2.out).trans (HG1.out.trans (GM.below (MapIs.map HO1.out) hb2)))
    rcases hcase with ⟨hne, rfl⟩ | ⟨hz, a', c, rfl, hB'⟩
    · have HNE := Hid.mk hne
      clear hne hb2
      go_wp2_with fail
      go_ret2
      refine ⟨HGM, .inl ?_⟩
      rw [HP.out, if_neg HNE.out]
      exact ⟨_, rfl, by simpa using HNE.out⟩
    · have HZ := Hid.mk hz
      have HB' := Hid.mk hB'
      have HWI : Hid (WrI l g bm w2 (used ++ [nm])) := Hid.mk ⟨cell_kept hb2 HGG.out, n, _, MapIs.kept HO1.out hb2, HT.out⟩
      clear hz hb2 hB'
      go_wp2_with fail
      go_ret2
      refine ⟨HGM, .inr ?_⟩
      rw [HP.out, if_pos HZ.out]
      exact ⟨_, _, rfl, Hid.mk ⟨rfl, HB'.out, HWI.out⟩⟩
end Bw
end Go.Proofs.YtgjkioknnjbjfaaDoor
