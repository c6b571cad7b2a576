/- What the function inside route.webOf answers: a place's number, a new one where there is room. -/
import Derived.Test.YtapjiopnjfldhaaDoorA13
namespace Go.Proofs.YtapjiopnjfldhaaDoor
open Go.ChangeShapes Go.WideShapes Go.ChangeAt Go.RowKit
namespace Bw
set_option linter.unusedVariables false
theorem two_new (w : World) (p : Pl) (t : TypeId) : ∀ j u, (plCl p)[j]? = some u → (w.alloc (.cells #[.int .i64 p.1, .int .i64 p.2] t)).cell? (Addr.add ⟨w.heap.size, 0, none⟩ j) = some u := by
  intro j u hj
  match j, hj with
  | 0, hj => (simp [plCl] at hj; subst hj; simp [Addr.add])
  | 1, hj => (simp [plCl] at hj; subst hj; simp [Addr.add])
theorem plCl_one (p : Pl) : ∀ u ∈ plCl p, u.oneCell' = true := by
  intro u hu
  simp [plCl] at hu
  rcases hu with rfl | rfl <;> rfl
set_option maxHeartbeats 8000000 in
set_option maxRecDepth 100000 in
theorem numOf_in (base gw gn bm : Nat) (vP vN : Value) (P : List Pl) (D : DVp) (q : Pl) (w : World) (hW : WebS 100000 w base gw gn bm vP vN P D) (hq : okQ q) (hin : q ∈ P) :
    Calls Tryd.prog 63 #[plV q, .pointer (some ⟨gn, 0, none⟩), .pointer (some ⟨gw, 0, none⟩)] w fun e w' => e = .returned (.tuple #[.int .i64 ((P.idxOf q : Nat) : Int), .bool true]) ∧ Below w.heap.size w w' := by
  have hb := awB w (.cells #[.int .i64 q.1, .int .i64 q.2] 106)
  have hW1 := hW.kept hb
  have c0 := hW1.box.cell
  have HM := Hid.mk hW1.map
  have HK := Hid.mk (kyP_some hq)
  have HV := Hid.mk (hW.numb.val q hin (.held (.int .i64 0)))
  have HH : Hid (Maps.has D (kyP q) = true) := Hid.mk (by rw [hW.numb.has q hq]; simpa using hin)
  have HB := Hid.mk hb
  unfold plV at HK
  obtain ⟨x, y⟩ := q
  simp only at c0 HM HK HV HH HB
  generalize kyP (x, y) = kl at HK HV HH
  generalize P.idxOf (x, y) = ix at HV ⊢
  unfold plV
  clear hW hW1 hb hin hq
  go_enter Tryd.func63, Tryd.ntmps63
  go_wp2_with (at_lookup; refine wpList_lookup_pl _ rfl _ _ rfl bm P.length D rfl HM.out _ _ rfl HK.out _ _ HV.out HH.out ?_)
  go_ret2
  exact ⟨rfl, HB.out⟩
set_option maxHeartbeats 8000000 in
set_option maxRecDepth 100000 in
theorem numOf_full (base gw gn bm : Nat) (vP vN : Value) (P : List Pl) (D : DVp) (q : Pl) (w : World) (hW : WebS 100000 w base gw gn bm vP vN P D) (hq : okQ q) (hin : q ∉ P) (hl : ¬ P.length < 100000) :
    Calls Tryd.prog 63 #[plV q, .pointer (some ⟨gn, 0, none⟩), .pointer (some ⟨gw, 0, none⟩)] w fun e w' => e = .returned (.tuple #[.int .i64 0, .bool false]) ∧ Below w.heap.size w w' := by
  have hb := awB w (.cells #[.int .i64 q.1, .int .i64 q.2] 106)
  have hW1 := hW.kept hb
  have c0 := hW1.box.cell
  have HM := Hid.mk hW1.map
  have HK := Hid.mk (kyP_some hq)
  have HH : Hid (Maps.has D (kyP q) = false) := Hid.mk (by rw [hW.numb.has q hq]; simpa using hin)
  have HV : Hid (D.atKey (kyP q) (.held (.int .i64 0)) = .held (.int .i64 0)) := Hid.mk (Maps.atKey_of_not_has HH.out _)
  have HB := Hid.mk hb
  obtain ⟨g0, g1, -, -⟩ := hW1.cells
  obtain ⟨aP, cP, hvP⟩ := own_slice0 hW.row
  subst hvP
  have hl' : ¬ ((P.length : Nat) : Int) < 100000 := by omega
  generalize P.length = n at *
  unfold plV at HK
  obtain ⟨x, y⟩ := q
  simp only at c0 HM HK HV HH HB g0 g1
  generalize kyP (x, y) = kl at HK HV HH
  unfold plV
  clear hW hW1 hb hin hq hl
  go_enter Tryd.func63, Tryd.ntmps63
  go_wp2_with (at_lookup; refine wpList_lookup_pl _ rfl _ _ rfl bm n D rfl HM.out _ _ rfl HK.out _ _ HV.out HH.out ?_)
  go_ret2
  exact ⟨rfl, HB.out⟩
theorem own_ge {w : World} {base : Nat} {e : TypeId} {size : Nat} {v : Value} {n : Nat} {xs : List Value} (h : w.ownsRow base e size v n xs) {k : Nat} (hk : v.ownBlock = some k) : base ≤ k ∧ k < w.heap.size := by
  rcases h.2 with ⟨h1, -⟩ | ⟨g, c, cur, h1, h2, h3, -⟩
  · subst h1; cases hk
  · subst h1; cases hk; exact ⟨h2, (Array.getElem?_eq_some_iff.1 h3).1⟩
theorem grown_at {w w' : World} {row : Option Nat} (h : w.grownBy w' row) {k : Nat} (hk : k < w.heap.size) (hn : row ≠ some k) : w'.heap[k]? = w.heap[k]? := h.block k hk (fun e => hn e.symm)
theorem web_add {base gw gn bm : Nat} {vP vN v' : Value} {P : List Pl} {D : DVp} {q : Pl} {w w2 w3 : World} {x y : Obj} (hW : WebS 100000 w base gw gn bm vP vN P D) (hq : okQ q) (hn : q ∉ P) (hl : P.length < 100000)
    (h2 : PlMap w2 bm (P.length + 1) (D.put (kyP q) (.held (.int .i64 ((P.length : Nat) : Int))))) (g2 : (w.alloc x).grownBy w2 (some bm))
    (h3 : w3.ownsRow base 106 2 v' (P.length + 1) (plC P ++ plCl q)) (g3 : (w2.alloc y).grownBy w3 vP.ownBlock) (ho : v'.ownBlock = vP.ownBlock ∨ v'.ownBlock = some (w2.alloc y).heap.size) :
    WebS 100000 (w3.setCell ⟨gw, 0, none⟩ v') base gw gn bm v' vN (P ++ [q]) (D.put (kyP q) (.held (.int .i64 ((P.length : Nat) : Int)))) ∧ NumT gw bm vP v' w (w3.setCell ⟨gw, 0, none⟩ v') := by
  have hle := hW.le
  have hgw := hW.hgw
  have hgn := hW.hgn
  have hbm := hW.hbm
  have s1 : w.heap.size + 1 ≤ w2.heap.size := by have := g2.size; simpa using this
  have s2 : w2.heap.size + 1 ≤ w3.heap.size := by have := g3.size; simpa using this
  have hnot : ∀ k, k < base → vP.ownBlock ≠ some k := fun k hk e => by have := (own_ge hW.row e).1; omega
  have hb : ∀ k, k < w.heap.size → k ≠ bm → vP.ownBlock ≠ some k → w3.heap[k]? = w.heap[k]? := by
    intro k hk h4 h5
    rw [grown_at g3 (by simp; omega) h5, Below.heap_alloc _ _ _ (by omega), grown_at g2 (by simp; omega) (fun e => h4 (Option.some.inj e).symm), Below.heap_alloc _ _ _ hk]
  have hv3 : w3.heap[gw]? = some (.cells #[vP, vN] 88 (0, 0)) := (hb gw (by omega) (fun e => hW.ne2 e.symm) (hnot gw hgw)).trans hW.var
  have hset : ∀ k, k ≠ gw → (w3.setCell ⟨gw, 0, none⟩ v').heap[k]? = w3.heap[k]? := fun k hk => Below.heap_setCell _ _ _ _ hk
  have hm3 : PlMap w3 bm (P.length + 1) (D.put (kyP q) (.held (.int .i64 ((P.length : Nat) : Int)))) := World.ownsMap.kept (World.ownsMap.kept h2 (row := none) (w' := w2.alloc y) ⟨rfl, rfl, rfl, by simp, fun k hk _ => Below.heap_alloc _ _ _ hk⟩ (by simp)) g3 (fun e => hnot bm hbm e.symm)
  refine ⟨⟨heap_setCell_same _ gw 0 _ _ _ hv3, ?_, ?_, ?_, ?_, ?_, ?_, hgw, hgn, hbm, hW.ne1, hW.ne2, hW.ne3, ?_⟩, g3.os.trans g2.os, g3.tape.trans g2.tape, g3.output.trans g2.output, ?_, ?_, ?_⟩
  · unfold BoxAt
    rw [hset gn (fun e => hW.ne1 e.symm), hb gn (by omega) (fun e => hW.ne3 e.symm) (hnot gn hgn)]
    exact hW.box
  · rw [List.length_append]
    exact World.ownsMap.setCell hm3 (a := ⟨gw, 0, none⟩) hW.ne2 _
  · exact hW.numb.add (World.ownsMap.isMap hW.map) hW.ok hq hn
  · rw [List.length_append, plC_add]
    exact owns_setB h3 (a := ⟨gw, 0, none⟩) hgw _
  · intro p hp
    rcases List.mem_append.1 hp with hp | hp
    · exact hW.ok p hp
    · rw [List.mem_singleton] at hp; subst hp; exact hq
  · rw [List.length_append, List.length_singleton]; omega
  · show base ≤ (w3.setCell ⟨gw, 0, none⟩ v').heap.size
    rw [show (w3.setCell ⟨gw, 0, none⟩ v').heap.size = w3.heap.size by simp [World.setCell]]
    omega
  · show w.heap.size ≤ (w3.setCell ⟨gw, 0, none⟩ v').heap.size
    rw [show (w3.setCell ⟨gw, 0, none⟩ v').heap.size = w3.heap.size by simp [World.setCell]]
    omega
  · intro k hk h1 h4 h5
    rw [hset k h1, hb k hk h4 h5]
  · rcases ho with ho | ho
    · exact .inl ho
    · exact .inr ⟨_, ho, by simp; omega⟩
set_option maxHeartbeats 8000000 in
set_option maxRecDepth 100000 in
theorem numOf_new (base gw gn bm : Nat) (vP vN : Value) (P : List Pl) (D : DVp) (q : Pl) (w : World) (hW : WebS 100000 w base gw gn bm vP vN P D) (hq : okQ q) (hin : q ∉ P) (hl : P.length < 100000) :
    Calls Tryd.prog 63 #[plV q, .pointer (some ⟨gn, 0, none⟩), .pointer (some ⟨gw, 0, none⟩)] w fun e w' => e = .returned (.tuple #[.int .i64 ((P.length : Nat) : Int), .bool true]) ∧ ∃ v' D', WebS 100000 w' base gw gn bm v' vN (P ++ [q]) D' ∧ NumT gw bm vP v' w w' := by
  obtain ⟨i0, hi, hz0, hz1, hz2⟩ := info_parts info_pl
  have hb := awB w (.cells #[.int .i64 q.1, .int .i64 q.2] 106)
  have hW1 := hW.kept hb
  have c0 := hW1.box.cell
  have HM := Hid.mk hW1.map
  have HK := Hid.mk (kyP_some hq)
  have HH : Hid (Maps.has D (kyP q) = false) := Hid.mk (by rw [hW.numb.has q hq]; simpa using hin)
  have HV : Hid (D.atKey (kyP q) (.held (.int .i64 0)) = .held (.int .i64 0)) := Hid.mk (Maps.atKey_of_not_has HH.out _)
  have HB := Hid.mk hb
  obtain ⟨g0, g1, -, -⟩ := hW1.cells
  obtain ⟨aP, cP, hvP⟩ := own_slice0 hW.row
  subst hvP
  have hl' : ((P.length : Nat) : Int) < 100000 := by omega
  have HW := Hid.mk hW
  have HQ := Hid.mk hq
  have HIN := Hid.mk hin
  have HL := Hid.mk hl
  have HA : Hid (∀ (w2 w3 : World) (v' : Value) (x y : Obj), _) := Hid.mk (fun w2 w3 v' x y => web_add (w2 := w2) (w3 := w3) (v' := v') (x := x) (y := y) hW hq hin hl)
  have HR := Hid.mk hW.row
  have HBM : Hid (bm ≠ gw ∧ bm ≠ gn ∧ bm < base ∧ gw < base ∧ base ≤ w.heap.size ∧ gn < base) := Hid.mk ⟨hW.ne2, hW.ne3, hW.hbm, hW.hgw, hW.le, hW.hgn⟩
  have HN : Hid (∀ k, k < base → (Value.slice aP P.length cP).ownBlock ≠ some k) := Hid.mk (fun k hk e => by have := (own_ge hW.row e).1; omega)
  have HBX : Hid ((w.alloc (.cells #[.int .i64 q.1, .int .i64 q.2] 106)).heap[w.heap.size]? = some (.cells #[.int .i64 q.1, .int .i64 q.2] 106 (0, 0))) := Hid.mk (heap_alloc_new w _)
  have HVR := Hid.mk hW1.var
  have HBO := Hid.mk hW1.box
  unfold plV at HK ⊢
  obtain ⟨x, y⟩ := q
  simp only at c0 HM HK HV HH HB g0 g1 HBX HVR HBO ⊢
  obtain ⟨n, hn⟩ : ∃ n, n = P.length := ⟨_, rfl⟩
  rw [← hn] at hl' HM g0 HR HN HVR ⊢
  have HNE := Hid.mk hn
  clear hW hW1 hb hin hq hl hn
  obtain ⟨kl, hkl⟩ : ∃ kl, kl = kyP (x, y) := ⟨_, rfl⟩
  rw [← hkl] at HK HV HH
  have HKL := Hid.mk hkl
  clear hkl
  go_enter Tryd.func63, Tryd.ntmps63
  go_wp2_with (first
    | (at_lookup; refine wpList_lookup_pl _ rfl _ _ rfl bm n D rfl HM.out _ _ rfl HK.out _ _ HV.out HH.out ?_)
    | (at_mapUpdate; refine wpList_mapUpdate_own _ rfl _ _ _ 104 rfl 106 3 pl_law Tryd.underlying104 RVp bm n D rfl HM.out (by unfold maxLen; omega) _ _ kl rfl rfl HK.out _ [] rfl ?_
       intro w2 hown2 hgrow2
       have b0 : w2.cell? ⟨w.heap.size, 0, none⟩ = some (.int .i64 x) := cell_of_row _ _ 0 _ _ _ ((grown_at hgrow2 (by simp) (fun e => by have := HBM.out; have := Option.some.inj e; omega)).trans HBX.out)
       have b1 : w2.cell? ⟨w.heap.size, 1, none⟩ = some (.int .i64 y) := cell_of_row _ _ 1 _ _ _ ((grown_at hgrow2 (by simp) (fun e => by have := HBM.out; have := Option.some.inj e; omega)).trans HBX.out)
       have HV2 := Hid.mk ((grown_at hgrow2 (by have := HBM.out; simp; omega) (fun e => HBM.out.1 (Option.some.inj e))).trans HVR.out)
       have a0 : w2.cell? ⟨gw, 0, none⟩ = some (.slice aP n cP) := cell_of_row _ _ 0 _ _ _ HV2.out
       have HO2 := Hid.mk hown2
       have HG2 := Hid.mk hgrow2
       have HR2 := Hid.mk (owns_beside (ownsRow_below HR.out HB.out) hgrow2 (fun k hk e => HN.out bm HBM.out.2.2.1 (by rw [hk, e])))
       have HS2 : Hid (base ≤ w2.heap.size) := Hid.mk (by have := hgrow2.size; have := HBM.out; simp at *; omega)
       clear hown2 hgrow2)
    | (at_builtin
       go_loud (refine wpList_append_two rfl (.tmp 29) (.tmp 31) 85 rfl base 106 i0 (.agg #[.int .i64 0, .int .i64 0]) 2 16 Tryd.underlying85 hi hz0 hz1 hz2 rfl (by decide) _ n _ rfl (HR2.out.alloc _) ⟨w2.heap.size, 0, none⟩ 1 1 (plCl (x, y)) rfl rfl (two_new w2 (x, y) _) (plCl_one _) (by decide) (by unfold maxLen; omega) (by omega) (by have := HS2.out; simp; omega) ?_)
       intro v3 w3 hown3 hgrow3 hblk3
       obtain ⟨b3, c3, rfl, -, -⟩ := own_slice hown3 (Nat.succ_pos _)
       have HV3 := Hid.mk ((grown_at hgrow3 (by have := HS2.out; have := HBM.out; simp; omega) (HN.out gw HBM.out.2.2.2.1)).trans ((Below.heap_alloc w2 _ gw (by have := HS2.out; have := HBM.out; omega)).trans HV2.out))
       have d0 : w3.cell? ⟨gw, 0, none⟩ = some (.slice aP n cP) := cell_of_row _ _ 0 _ _ _ HV3.out
       have d1 : w3.frozen? ⟨gw, 0, none⟩ = false := frozen_of_row _ _ 0 _ _ HV3.out
       have HO3 := Hid.mk hown3
       have HG3 := Hid.mk hgrow3
       have HK3 := Hid.mk hblk3
       clear hown3 hgrow3 hblk3))
  go_ret2
  have e := HNE.out
  subst e
  have e2 := HKL.out
  subst e2
  exact ⟨rfl, _, _, HA.out w2 w3 _ _ _ HO2.out HG2.out HO3.out HG3.out HK3.out⟩
theorem numOf_any (base gw gn bm : Nat) (vP vN : Value) (P : List Pl) (D : DVp) (q : Pl) (w : World) (hW : WebS 100000 w base gw gn bm vP vN P D) (hq : okQ q) :
    Calls Tryd.prog 63 #[plV q, .pointer (some ⟨gn, 0, none⟩), .pointer (some ⟨gw, 0, none⟩)] w fun e w' => e = .returned (.tuple #[.int .i64 ((numI 100000 P q : Nat) : Int), .bool (numB 100000 P q)]) ∧ ∃ v' D', WebS 100000 w' base gw gn bm v' vN (addP 100000 P q) D' ∧ NumT gw bm vP v' w w' := by
  by_cases hin : q ∈ P
  · obtain ⟨e1, e2, e3⟩ := addP_in (F := 100000) hin
    rw [e1, e2, e3]
    refine (numOf_in base gw gn bm vP vN P D q w hW hq hin).mono ?_
    rintro e w' ⟨rfl, hb⟩
    exact ⟨rfl, vP, D, hW.kept hb, NumT.refl gw bm vP hb⟩
  · by_cases hl : P.length < 100000
    · obtain ⟨e1, e2, e3⟩ := addP_new hin hl
      rw [e1, e2, e3]
      exact numOf_new base gw gn bm vP vN P D q w hW hq hin hl
    · obtain ⟨e1, e2, e3⟩ := addP_full hin hl
      rw [e1, e2, e3]
      refine (numOf_full base gw gn bm vP vN P D q w hW hq hin hl).mono ?_
      rintro e w' ⟨rfl, hb⟩
      exact ⟨rfl, vP, D, hW.kept hb, NumT.refl gw bm vP hb⟩
end Bw
end Go.Proofs.YtapjiopnjfldhaaDoor
