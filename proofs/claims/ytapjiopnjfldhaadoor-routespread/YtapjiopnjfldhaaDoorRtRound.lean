/- What route.goesRound answers. -/
import Derived.Test.YtapjiopnjfldhaaDoorA14
import Derived.Test.YtapjiopnjfldhaaDoorRtKahn
import Derived.RegionTactic
import Derived.BigRegion
namespace Go.Proofs.YtapjiopnjfldhaaDoor
open Go.ChangeShapes Go.WideShapes Go.ChangeAt Go.RowKit
namespace Bw
open Bm
set_option linter.unusedVariables false
/-- rows of numbers in a row, to be read -/
structure NnAt (w : World) (x : Addr) (L : List (List Int)) : Prop where
  row : ∀ i, i < L.length → ∃ a n c, w.cell? (x.add i) = some (.slice a n c) ∧ IsNums w a n c (L.getD i [])
theorem NnAt.kept {w w' : World} {x : Addr} {L : List (List Int)} (h : NnAt w x L) (hb : Below w.heap.size w w') : NnAt w' x L :=
  ⟨fun i hi => by obtain ⟨a, n, c, h1, h2⟩ := h.row i hi; exact ⟨a, n, c, cell_kept hb h1, h2.kept hb⟩⟩
theorem NxS.read {w : World} {base : Nat} {av : List Value} {vN : Value} {L : List (List Int)} (h : NxS w base av vN L) (h0 : 0 < L.length) : ∃ x c, vN = .slice (some x) L.length c ∧ NnAt w x L := by
  obtain ⟨S, hr, hall⟩ := h.row
  obtain ⟨g, c, rfl, h1, h2⟩ := own_slice hr h0
  refine ⟨⟨g, 0, none⟩, c, rfl, ⟨fun i hi => ?_⟩⟩
  obtain ⟨a, n, c', e1, e2, -⟩ := hall i hi
  exact ⟨a, n, c', hr.cells (g := g) rfl i _ e1, e2⟩
theorem made_int (w : World) (n : Nat) : LstAt (w.alloc (.cells (madeCells #[.int .i64 0] n) 3)) (some ⟨w.heap.size, 0, none⟩) n (List.replicate n 0) := by
  refine ⟨by simp, .inr ⟨w.heap.size, _, rfl, heap_alloc_new w _, fun j hj => ?_⟩⟩
  simp [madeCells, hj, Nat.mod_one, List.getD]
/-- what stands still in goesRound: the web's variable and the counts -/
structure GrS (w0 w : World) (vP vN : Value) (n : Nat) (A : List Int) : Prop where
  var : w.heap[w0.heap.size]? = some (.cells #[vP, vN] 88 (0, 0))
  lst : LstAt w (some ⟨w0.heap.size + 1, 0, none⟩) n A
  bel : Below w0.heap.size w0 w
theorem GrS.cells {w0 w : World} {vP vN : Value} {n : Nat} {A : List Int} (h : GrS w0 w vP vN n A) : w.cell? ⟨w0.heap.size, 0, none⟩ = some vP ∧ w.cell? ⟨w0.heap.size, 1, none⟩ = some vN := ⟨cell_of_row _ _ 0 _ _ _ h.var, cell_of_row _ _ 1 _ _ _ h.var⟩
theorem GrS.set {w0 w : World} {vP vN : Value} {n : Nat} {A : List Int} (h : GrS w0 w vP vN n A) {i : Nat} (hi : i < n) (v : Int) : GrS w0 (w.setCell ⟨w0.heap.size + 1, i, none⟩ (.int .i64 v)) vP vN n (A.set i v) :=
  ⟨(setH (by omega)).trans h.var, h.lst.set hi v, h.bel.setCell (p := ⟨w0.heap.size + 1, i, none⟩) (by show w0.heap.size ≤ w0.heap.size + 1; omega) _⟩
theorem GrS.kept {w0 w w' : World} {vP vN : Value} {n : Nat} {A : List Int} (h : GrS w0 w vP vN n A) (hb : Below w.heap.size w w') : GrS w0 w' vP vN n A :=
  ⟨(hb.block _ (Array.getElem?_eq_some_iff.1 h.var).1).trans h.var, h.lst.kept hb, bl2 h.bel hb⟩
theorem GrS.grown {w0 w w' : World} {vP vN : Value} {n : Nat} {A : List Int} (h : GrS w0 w vP vN n A) {row : Option Nat} (hg : w.grownBy w' row) (hr : ∀ k, row = some k → w0.heap.size + 2 ≤ k) (hs : w0.heap.size ≤ w.heap.size) : GrS w0 w' vP vN n A :=
  ⟨(grown_at hg (Array.getElem?_eq_some_iff.1 h.var).1 (fun e => by have := hr _ e; omega)).trans h.var, h.lst.grown hg (fun x hx e => by cases hx; have := hr _ e; simp at this), Below.grown h.bel hg hs (fun k hk => by have := hr k hk; omega)⟩
theorem GrS.drew {w0 w : World} {vP vN : Value} {n : Nat} {A : List Int} (h : GrS w0 w vP vN n A) : GrS w0 w.drew vP vN n A :=
  ⟨h.var, h.lst, h.bel.drew⟩
theorem GrS.new (w : World) (vP vN : Value) (n : Nat) : GrS w ((w.alloc (.cells #[vP, vN] 88)).alloc (.cells (madeCells #[.int .i64 0] n) 3)) vP vN n (List.replicate n 0) := by
  have hb1 := awB w (.cells #[vP, vN] 88)
  have hb2 := awB (w.alloc (.cells #[vP, vN] 88)) (.cells (madeCells #[.int .i64 0] n) 3)
  have hl := made_int (w.alloc (.cells #[vP, vN] 88)) n
  rw [show (w.alloc (.cells #[vP, vN] 88)).heap.size = w.heap.size + 1 by simp] at hl
  exact ⟨(hb2.block _ (by simp)).trans (heap_alloc_new w _), hl, bl2 hb1 hb2⟩
def nfC (F : List Nat) : List Value := numC (F.map fun f : Nat => (f : Int))
theorem nfC_len (F : List Nat) : (nfC F).length = F.length := by simp [nfC, numC]
theorem nfC_get {F : List Nat} {k : Nat} (hk : k < F.length) : (nfC F)[k]? = some (.int .i64 ((F.getD k 0 : Nat) : Int)) := by simp [nfC, numC, List.getD, hk]
theorem one_intS (w : World) (b i : Nat) (u v : Value) (t : TypeId) : ∀ q z, ([v] : List Value)[q]? = some z → ((w.setCell ⟨b, i, none⟩ u).alloc (.cells #[v] t)).cell? (Addr.add ⟨w.heap.size, 0, none⟩ q) = some z := by
  have h := one_int (w.setCell ⟨b, i, none⟩ u) v t
  rw [setS] at h
  exact h
theorem GrS.set_alloc {w0 w : World} {vP vN : Value} {n i : Nat} {u : Value} {A : List Int} (h : GrS w0 (w.setCell ⟨w0.heap.size + 1, i, none⟩ u) vP vN n A) (hs : w0.heap.size + 2 ≤ w.heap.size) {w' : World} {row : Option Nat} (o : Obj) (hg : ((w.setCell ⟨w0.heap.size + 1, i, none⟩ u).alloc o).grownBy w' row) (hr : ∀ k, row = some k → w0.heap.size + 2 ≤ k) : GrS w0 w' vP vN n A ∧ w0.heap.size + 2 ≤ w'.heap.size := by
  have h1 := h.kept (awB _ o)
  have h2 : ((w.setCell ⟨w0.heap.size + 1, i, none⟩ u).alloc o).heap.size = w.heap.size + 1 := by simp [World.setCell]
  refine ⟨h1.grown hg hr (by rw [h2]; omega), ?_⟩
  have h3 := hg.size
  omega
set_option maxHeartbeats 16000000 in
set_option maxRecDepth 100000 in
theorem round_any (L : List (List Int)) (n : Nat) (aP : Option Addr) (cP : Nat) (x : Addr) (cN : Nat) (w : World) (hn : L.length = n) (hR : Kn.Rows L) (hN : NnAt w x L) :
    Calls Tryd.prog 47 #[.agg #[.slice aP n cP, .slice (some x) n cN]] w fun e w' => ∃ b, e = .returned (.bool b) ∧ Kn.Round L b ∧ Below w.heap.size w w' := by
  obtain ⟨i0, hi0, hz0, hz1, hz2⟩ := info_parts info_intF
  have hnp : 0 < n := by rw [← hn]; exact hR.pos
  have hnm : n ≤ 100000 := by rw [← hn]; exact hR.max
  have hmk : ∀ W : World, (Instr.makeSlice 23 (.int .i64 (n : Int)) (.int .i64 (n : Int))).run Tryd.prog W = .ok (.slice (some ⟨W.heap.size, 0, none⟩) n n) (W.alloc (.cells (madeCells #[.int .i64 0] n) 3)) := by
    intro W
    exact run_make_row' 23 3 (.int .i64 0) 8 Tryd.underlying23 info_intF rfl .i64 .i64 n (by omega) (by omega) W
  have HG := Hid.mk (GrS.new w (.slice aP n cP) (.slice (some x) n cN) n)
  have HC : Hid (Kn.Cnt L 0 0 (List.replicate n 0)) := Hid.mk (by rw [← hn]; exact Kn.Cnt.start L)
  have HRR := Hid.mk hR
  have HNN := Hid.mk hN
  have HLN := Hid.mk hn
  have HNP := Hid.mk hnp
  have hn63 : (n : Int) ≤ 100000 := by omega
  have hpi : (0 : Int) < (n : Int) := by omega
  clear hR hN hn
  obtain ⟨g0, g1⟩ := HG.out.cells
  go_enter Tryd.func47, Tryd.ntmps47
  go_wp2_with fail
  generalize (w.alloc (.cells #[.slice aP n cP, .slice (some x) n cN] 88)).alloc (.cells (madeCells #[.int .i64 0] n) 3) = W0 at *
  go_loopw [19] (fun i wr => ∃ (k : Nat) (A : List Int), k ≤ n ∧ i = .int .i64 k ∧ Hid (GrS w wr (.slice aP n cP) (.slice (some x) n cN) n A) ∧ Hid (Kn.Cnt L k 0 A)) (fun i _ => n - (intOf i).toNat)
  case atStart => exact ⟨0, _, Nat.zero_le _, rfl, HG, HC⟩
  case round =>
    clear HG HC
    obtain ⟨k, A, hk, rfl, HG, HC⟩ := hrel
    by_cases hlt : k < n
    · have hlt' : (k : Int) < (n : Int) := by omega
      obtain ⟨a, m, c, c0, hI⟩ := HNN.out.row k (by rw [HLN.out]; exact hlt)
      have c0 := cell_kept HG.out.bel c0
      have HI := Hid.mk hI
      have HNC : Hid (∀ wi, Below w.heap.size w wi → IsNums wi a m c (L.getD k [])) := Hid.mk (fun wi hb => HI.out.kept hb)
      have hm20 : m ≤ 20 := by rw [← hI.len]; exact HRR.out.wide k
      have hm63 : (m : Int) ≤ 20 := by omega
      have HML : Hid ((L.getD k []).length = m) := Hid.mk hI.len
      clear hI
      rename World => wo
      go_wp2_with fail
      go_loopw [25] (fun i wi => ∃ (q : Nat) (A : List Int), q ≤ m ∧ i = .int .i64 q ∧ Hid (GrS w wi (.slice aP n cP) (.slice (some x) n cN) n A) ∧ Hid (Kn.Cnt L k q A)) (fun i _ => m - (intOf i).toNat)
      case atStart => exact ⟨0, A, Nat.zero_le _, rfl, HG, HC⟩
      case round =>
        clear HG HC
        obtain ⟨q, A, hq, rfl, HG, HC⟩ := hrel
        by_cases hlq : q < m
        · have hlq' : (q : Int) < (m : Int) := by omega
          obtain ⟨y, rfl⟩ := HI.out.some hlq
          have c1 := (HNC.out _ HG.out.bel).cell y rfl q hlq
          have hqx := Kn.Rows.at HRR.out (show k < L.length by rw [HLN.out]; exact hlt) (show q < (L.getD k []).length by rw [HML.out]; exact hlq)
          obtain ⟨j, hj, hjl⟩ := hqx
          rw [hj] at c1
          have hjn : j < n := by rw [← HLN.out]; exact hjl
          have hjn' : (j : Int) < (n : Int) := by omega
          obtain ⟨e0, e1, -⟩ := HG.out.lst.cell hjn
          have hA0 : 0 ≤ A.getD j 0 ∧ A.getD j 0 ≤ 2000000 := by
            have h1 := HC.out.val j hjl
            have h2 := Kn.part_le HRR.out j k q (by rw [HLN.out]; exact hlt)
            omega
          have HC2 := Hid.mk (HC.out.step (show q < (L.getD k []).length by rw [HML.out]; exact hlq) hj hjl)
          have HG2 := Hid.mk (HG.out.set hjn (A.getD j 0 + 1))
          obtain ⟨V, hV⟩ : ∃ V, V = A.getD j 0 := ⟨_, rfl⟩
          rw [← hV] at e0 hA0 HC2 HG2
          obtain ⟨hV0, hV1⟩ := hA0
          clear hV hj HG HC
          go_wp2_with fail
          go_roundw
          case rel => exact ⟨q + 1, _, by omega, by go_num, HG2, HC2⟩
          case measure => simp [intOf]; omega
        · obtain rfl : q = m := by omega
          have HC2 : Hid (Kn.Cnt L (k + 1) 0 A) := Hid.mk (by have h := HC.out; rw [← HML.out] at h; exact h.row)
          go_wp2_with fail
          go_roundw
          case rel => exact ⟨k + 1, A, by omega, by go_num, HG, HC2⟩
          case measure => simp [intOf]; omega
    · obtain rfl : n = k := by omega
      have hCk : Kn.Cnt L L.length 0 A := by rw [HLN.out]; exact HC.out
      obtain ⟨e0, e1, -⟩ := HG.out.lst.cell HNP.out
      obtain ⟨V, hV⟩ : ∃ V, V = A.getD 0 0 := ⟨_, rfl⟩
      by_cases hpos : 0 < V
      · have HRD := Hid.mk (Kn.round_first HRR.out hCk (by rw [← hV]; exact hpos))
        rw [← hV] at e0
        clear hV hCk
        go_wp2_with fail
        refine bodyPost_ret (results_tmp rfl _ _ _) rfl ?_
        exact ⟨true, rfl, HRD.out, HG.out.bel⟩
      · have HFR := Hid.mk (Kn.Fre.start HRR.out hCk (by rw [← hV]; exact hpos))
        rw [← hV] at e0
        have hb1 := awB wr (.cells #[.int .i64 0] 3)
        have hsz : w.heap.size + 2 ≤ wr.heap.size := by have := (HG.out.lst.cell HNP.out).2.2; omega
        have HO1 := Hid.mk (World.ownsRow_lit (base := w.heap.size + 2) (e := 3) (size := 1) wr #[.int .i64 0] 1 hsz (by unfold maxLen; omega) rfl)
        have HG1 := Hid.mk (HG.out.kept hb1)
        have HSZ : Hid (w.heap.size + 2 ≤ (wr.alloc (.cells #[.int .i64 0] 3)).heap.size) := Hid.mk (by simp; omega)
        clear hV hCk hb1 hsz HG HC
        rename World => wo
        go_wp2_with fail
        go_loopw [8, 9] (fun vq i wr => ∃ (vX : Value) (k : Nat) (F : List Nat) (A : List Int), vX = vq ∧ i = .int .i64 k ∧ Hid (GrS w wr (.slice aP n cP) (.slice (some x) n cN) n A) ∧ Hid (Kn.Fre L k 0 F A) ∧ Hid (wr.ownsRow (w.heap.size + 2) 3 1 vX F.length (nfC F)) ∧ Hid (w.heap.size + 2 ≤ wr.heap.size)) (fun _ i _ => n - (intOf i).toNat)
        case atStart => exact ⟨_, 0, [0], _, rfl, rfl, HG1, HFR, HO1, HSZ⟩
        case round =>
          clear HG1 HFR HO1 HSZ e0 e1
          obtain ⟨vX, k, F, A, rfl, rfl, HG, HFR, HO, HSZ⟩ := hrel
          obtain ⟨NF, hNF⟩ : ∃ NF, NF = F.length := ⟨_, rfl⟩
          have HNF := Hid.mk hNF
          rw [← hNF] at HO
          have hkF : k ≤ NF := by rw [hNF]; exact HFR.out.k_le
          have hFn : NF ≤ n := by rw [hNF, ← HLN.out]; exact HFR.out.flen
          clear hNF
          obtain ⟨aX, cX, hvX⟩ := own_slice0 HO.out
          subst hvX
          rename World => wo
          by_cases hlt : k < NF
          · have hlt' : (k : Int) < (NF : Int) := by omega
            obtain ⟨gX, cX', hvX2, hgX, -⟩ := own_slice HO.out (by omega)
            cases hvX2
            have hkF' : k < F.length := by rw [← HNF.out]; exact hlt
            have f0 := HO.out.cells (g := gX) rfl k _ (nfC_get hkF')
            rw [Addr.add_lit, Nat.zero_add] at f0
            obtain ⟨j0, hj0⟩ : ∃ j0, j0 = F.getD k 0 := ⟨_, rfl⟩
            have hjL : j0 < L.length := by rw [hj0]; exact HFR.out.ok _ (by simp [List.getD, hkF'])
            rw [← hj0] at f0
            have hjn : j0 < n := by rw [← HLN.out]; exact hjL
            have hjn' : (j0 : Int) < (n : Int) := by omega
            obtain ⟨a, m, c, c0, hI⟩ := HNN.out.row j0 hjL
            have c0 := cell_kept HG.out.bel c0
            have HI := Hid.mk hI
            have HNC : Hid (∀ wi, Below w.heap.size w wi → IsNums wi a m c (L.getD j0 [])) := Hid.mk (fun wi hb => HI.out.kept hb)
            have hm20 : m ≤ 20 := by rw [← hI.len]; exact HRR.out.wide j0
            have hm63 : (m : Int) ≤ 20 := by omega
            have HML : Hid ((L.getD j0 []).length = m) := Hid.mk hI.len
            obtain ⟨g0, g1⟩ := HG.out.cells
            have HJ0 := Hid.mk hj0
            have HKF := Hid.mk hkF'
            clear hI hj0 hkF'
            go_wp2_with fail
            go_region
            go_wp2_with fail
            go_loopw [8, 57] (fun vq i wi => ∃ (vX : Value) (q : Nat) (F : List Nat) (A : List Int), vX = vq ∧ q ≤ m ∧ i = .int .i64 q ∧ Hid (k < F.length ∧ F.getD k 0 = j0) ∧ Hid (GrS w wi (.slice aP n cP) (.slice (some x) n cN) n A) ∧ Hid (Kn.Fre L k q F A) ∧ Hid (wi.ownsRow (w.heap.size + 2) 3 1 vX F.length (nfC F)) ∧ Hid (w.heap.size + 2 ≤ wi.heap.size)) (fun _ i _ => m - (intOf i).toNat)
            case atStart => exact ⟨_, 0, F, A, rfl, Nat.zero_le _, rfl, Hid.mk ⟨HKF.out, HJ0.out.symm⟩, Hid.mk HG.out.drew, HFR, by rw [← HNF.out]; exact HO, HSZ⟩
            case round =>
              clear HG HFR HO HSZ HKF HJ0 HNF f0 c0 g0 g1 hlt hlt' hkF hFn
              obtain ⟨vX, q, F, A, rfl, hq, rfl, HK, HG, HFR, HO, HSZ⟩ := hrel
              by_cases hlq : q < m
              · have hlq' : (q : Int) < (m : Int) := by omega
                obtain ⟨y, rfl⟩ := HI.out.some hlq
                have c1 := (HNC.out _ HG.out.bel).cell y rfl q hlq
                have hqx := Kn.Rows.at HRR.out hjL (show q < (L.getD j0 []).length by rw [HML.out]; exact hlq)
                obtain ⟨j, hj, hjl⟩ := hqx
                have hqr : q < (L.getD (F.getD k 0) []).length := by rw [HK.out.2, HML.out]; exact hlq
                have hjr : (L.getD (F.getD k 0) []).getD q 0 = (j : Int) := by rw [HK.out.2]; exact hj
                have HPOS := HFR.out.pos HK.out.1 hqr hjr hjl
                have HLE := HFR.out.le HRR.out hjl
                obtain ⟨hst1, hst2⟩ := HFR.out.step HK.out.1 hqr hjr hjl
                rw [hj] at c1
                have hjn3 : j < n := by rw [← HLN.out]; exact hjl
                have hjn4 : (j : Int) < (n : Int) := by omega
                obtain ⟨e0, e1, -⟩ := HG.out.lst.cell hjn3
                have HG2 := Hid.mk (HG.out.set hjn3 (A.getD j 0 - 1))
                obtain ⟨V, hV⟩ : ∃ V, V = A.getD j 0 := ⟨_, rfl⟩
                rw [← hV] at e0 hst1 hst2 HPOS HLE HG2
                have HST1 := Hid.mk hst1
                have HST2 := Hid.mk hst2
                have e2 := (HG2.out.lst.cell hjn3).1
                have e3 : (A.set j (V - 1)).getD j 0 = V - 1 := by rw [Kn.getD_set _ _ _ _ (by rw [HG.out.lst.1]; exact hjn3), if_pos rfl]
                rw [e3] at e2
                have HO2 := Hid.mk (owns_setB HO.out (a := ⟨w.heap.size + 1, j, none⟩) (show w.heap.size + 1 < w.heap.size + 2 by omega) (.int .i64 (V - 1)))
                clear hV hj hqr hjr hst1 hst2 e3
                by_cases hz : V = 1
                · subst hz
                  obtain ⟨hF2, hK2⟩ := HST2.out (by rfl)
                  have HF2 := Hid.mk hF2
                  have HK2 : Hid (k < (F ++ [j]).length ∧ (F ++ [j]).getD k 0 = j0) := Hid.mk ⟨by rw [List.length_append]; have := HK.out.1; omega, hK2.trans HK.out.2⟩
                  have hfl := HFR.out.flen
                  rw [HLN.out] at hfl
                  have HFL := Hid.mk hfl
                  obtain ⟨NF, hNF⟩ : ∃ NF, NF = F.length := ⟨_, rfl⟩
                  rw [← hNF] at HO2
                  have HNF := Hid.mk hNF
                  obtain ⟨aX, cX, hvX⟩ := own_slice0 HO2.out
                  subst hvX
                  clear hF2 hK2 HG HFR HO hfl hNF
                  have e1' : (1 : Int) - 1 = 0 := by rfl
                  simp only [Int.sub_self] at HG2 HF2 HO2 e2
                  have hnp2 : n ≤ 100000 := hnm
                  go_wp2_with (
                    at_builtin
                    refine wpList_append_own _ rfl (.tmp 72) (.tmp 74) 23 rfl (w.heap.size + 2) 3 i0 (.int .i64 0) 1 8 Tryd.underlying23 hi0 hz0 hz1 hz2 rfl (by decide) _ _ _ rfl (HO2.out.alloc _) ⟨wr.heap.size, 0, none⟩ 1 1 [Value.int .i64 (j : Int)] rfl rfl (one_intS wr _ _ _ _ _) (by intro u hu; simp at hu; subst hu; rfl) (by have := HFL.out; have := HNF.out; unfold maxLen; omega) (by have := HFL.out; have := HNF.out; omega) (by have := HSZ.out; simp; omega) ?_
                    intro v6 w6 hown6 hgrow6 _
                    have HO6 : Hid (w6.ownsRow (w.heap.size + 2) 3 1 v6 (F ++ [j]).length (nfC (F ++ [j]))) := Hid.mk (by
                      have e : nfC (F ++ [j]) = nfC F ++ [.int .i64 (j : Int)] := by simp [nfC, numC]
                      rw [List.length_append, e, ← HNF.out]
                      exact hown6)
                    obtain ⟨hg6, hs6⟩ := HG2.out.set_alloc HSZ.out _ hgrow6 (fun q hq => (HO2.out.lt q hq).1)
                    have HG6 := Hid.mk hg6
                    have HS6 := Hid.mk hs6
                    clear hown6 hgrow6 hg6 hs6)
                  go_roundw
                  case rel => exact ⟨_, q + 1, F ++ [j], _, rfl, by omega, by go_num, HK2, HG6, HF2, HO6, HS6⟩
                  case measure => simp [intOf]; omega
                · have hz' : ¬ V - 1 = 0 := by omega
                  have hz2 : (V - 1 == 0) = false := by rw [beq_eq_false_iff_ne]; exact hz'
                  have HF2 := Hid.mk (HST1.out hz')
                  clear hz hz' HG HFR HO
                  go_wp2_with fail
                  go_roundw
                  case rel => exact ⟨_, q + 1, F, _, rfl, by omega, by go_num, HK, HG2, HF2, HO2, by simpa using HSZ⟩
                  case measure => simp [intOf]; omega
              · obtain rfl : m = q := by omega
                have HF2 : Hid (Kn.Fre L (k + 1) 0 F A) := Hid.mk (by
                  have h := HFR.out
                  rw [← HML.out, ← HK.out.2] at h
                  exact h.row HK.out.1)
                have hkn : k < n := by have h1 := HFR.out.flen; have h2 := HK.out.1; have h3 := HLN.out; omega
                go_wp2_with fail
                go_roundw
                case rel => exact ⟨_, k + 1, F, A, rfl, by go_num, HG, HF2, HO, HSZ⟩
                case measure => simp [intOf]; omega
          · obtain rfl : NF = k := by omega
            obtain ⟨g0, g1⟩ := HG.out.cells
            have HRD := Hid.mk (Kn.round_end HRR.out (by have h := HFR.out; rw [HNF.out] at h; exact h))
            rw [← HNF.out, HLN.out] at HRD
            go_wp2_with fail
            refine bodyPost_ret (results_tmp rfl _ _ _) rfl ?_
            exact ⟨_, rfl, HRD.out, HG.out.bel⟩
end Bw
end Go.Proofs.YtapjiopnjfldhaaDoor
