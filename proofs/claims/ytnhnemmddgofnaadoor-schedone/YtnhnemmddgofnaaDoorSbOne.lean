/- The law SchedOne: one message goes at a time. -/
import Derived.Test.YtnhnemmddgofnaaDoorSbBound
import Derived.Maps.OwnSet
import Derived.Maps.OwnOps
namespace Go.Proofs.YtnhnemmddgofnaaDoor
open Go.ChangeShapes Go.WideShapes Go.ChangeAt Go.RowKit Go.Maps
namespace Bw
open Sb (Ms Sl asks)
set_option linter.unusedVariables false
abbrev DVs := DataW Value
def kI (k : Nat) : Lit := .int .i64 (k : Int)
theorem kI_ne {a b : Nat} (h : a ≠ b) : kI a ≠ kI b := by
  unfold kI
  intro e
  have := Lit.int.inj e
  omega
theorem kI_key (k : Nat) : WideAt.IsKeyLit (kI k) := trivial
/-- the map of the last ones -/
def Lst (D : DVs) (L : List Sl) : Prop := ∀ k z, Maps.has D (kI k) = true → ∃ x ∈ L, x.k = k ∧ D.atKey (kI k) z = .lit (.int .i64 (x.d : Int))
theorem Lst.nil : Lst (.map []) [] := fun k z h => by cases h
theorem Lst.put {D : DVs} {L : List Sl} (h : Lst D L) (hm : Maps.Tidy D) (x : Sl) : Lst (D.put (kI x.k) (.lit (.int .i64 (x.d : Int)))) (L ++ [x]) := by
  intro k z hk
  by_cases e : k = x.k
  · subst e
    exact ⟨x, by simp, rfl, Maps.atKey_put_same hm.isMap (kI_key _) _ _⟩
  · rw [Maps.has_put_other (kI_ne e)] at hk
    obtain ⟨y, h1, h2, h3⟩ := h k z hk
    exact ⟨y, List.mem_append_left _ h1, h2, by rw [Maps.atKey_put_other (kI_ne e)]; exact h3⟩
def nowN (C : Nat → Nat) (L : List Sl) : Nat → Nat
  | 0 => 0
  | k + 1 => (L.getD k noS).s + C (L.getD k noS).k
theorem lens_take {Q : List (List Ms)} {i : Nat} (h : i < Q.length) : Sb.lens (Q.take (i + 1)) = Sb.lens (Q.take i) + (Q.getD i []).length := by
  have e : Q.getD i [] = Q[i] := by simp [List.getD, h]
  rw [List.take_succ_eq_append_getElem h, e]
  unfold Sb.lens
  rw [List.map_append, List.sum_append]
  rfl
theorem lens_take_le {Q : List (List Ms)} (i : Nat) : Sb.lens (Q.take i) ≤ Sb.lens Q := by
  have h : Sb.lens (Q.take i ++ Q.drop i) = Sb.lens (Q.take i) + Sb.lens (Q.drop i) := by
    unfold Sb.lens
    rw [List.map_append, List.sum_append]
  rw [List.take_append_drop] at h
  omega
theorem cell_not_map {w : World} {y : Addr} {v : Value} (hc : w.cell? y = some v) {b : Nat} {es : Array MapEntry} {clock : Nat} (hm : w.heap[b]? = some (.map es clock)) : y.block ≠ b := by
  intro e
  unfold World.cell? at hc
  rw [e, hm] at hc
  simp at hc
theorem sls_beside {w w' : World} {a : Option Addr} {n bm k : Nat} {C : Nat → Nat} {L : List Sl} {D : DVs} (h : IsSls w a n C L) (hm : w.ownsMap Tryd.prog 3 (plainElem Tryd.prog 3) bm k D) (hg : w.grownBy w' (some bm)) : IsSls w' a n C L := by
  obtain ⟨es, clock, hmb, -⟩ := hm
  have hk : ∀ {y : Addr} {v : Value}, w.cell? y = some v → w'.cell? y = some v := fun hc => cell_grown hg hc (fun e => cell_not_map hc hmb (Option.some.inj e).symm)
  exact ⟨h.len, h.nil, fun x hx i hi => ⟨hk (h.cell x hx i hi).c0, hk (h.cell x hx i hi).c1, hk (h.cell x hx i hi).c2, hk (h.cell x hx i hi).c3⟩⟩
theorem wf_smallS {a : Nat} (h : a ≤ 3000000) : (Lit.int .i64 (a : Int)).wf = true := by
  unfold Lit.wf
  rw [Bool.and_eq_true, decide_eq_true_eq, decide_eq_true_eq]
  have e1 : IntKind.i64.min = -9223372036854775808 := by decide
  have e2 : IntKind.i64.max = 9223372036854775807 := by decide
  rw [e1, e2]
  omega
/-- what one slot is, behind those ahead -/
theorem one_at {l : List Tk} {fs : List Int} {e : Nat} {Q : List (List Ms)} {S : List Sl} (hl : chkT l = 0) (hA : Sb.Asked l fs e Q) (hS : Sb.Play (Sb.cT l) 0 (asks Q) S) {k : Nat} (hk : k < S.length) :
    nowN (Sb.cT l) S k ≤ (S.getD k noS).s ∧ (S.getD k noS).d ≤ (S.getD k noS).s ∧ 0 < Sb.cT l (S.getD k noS).k ∧ ∀ x ∈ S.take k, x.k = (S.getD k noS).k → x.d < (S.getD k noS).d := by
  obtain ⟨hR, -⟩ := hA.run hl hS
  have hm := getD_memS hk
  refine ⟨?_, ?_, hR.cpos _ hm, fun x hx hxk => ?_⟩
  · cases k with
    | zero => exact Nat.zero_le _
    | succ k =>
      have h1 := (List.pairwise_iff_getElem.1 hR.ord) k (k + 1) (by omega) hk (by omega)
      have e1 : S.getD k noS = S[k] := by simp [List.getD, show k < S.length by omega]
      have e2 : S.getD (k + 1) noS = S[k + 1] := by simp [List.getD, hk]
      show (S.getD k noS).s + Sb.cT l (S.getD k noS).k ≤ _
      rw [e1, e2]
      exact h1.1
  · have h1 := hR.jit _ hm
    have h2 := hR.ask _ hm
    omega
  · obtain ⟨j, hj, rfl⟩ := List.getElem_of_mem hx
    rw [List.length_take] at hj
    rw [List.getElem_take] at hxk ⊢
    have h1 := (List.pairwise_iff_getElem.1 hR.fifo) j k (by omega) hk (by omega)
    have e2 : S.getD k noS = S[k] := by simp [List.getD, hk]
    rw [e2] at hxk ⊢
    exact h1 hxk
theorem zero_intS (w : World) : (zeroValue 3).run Tryd.prog w = .ok (.int .i64 0) w := by
  obtain ⟨i, hi, hz, -⟩ := info_partsD info_int
  simp [zeroValue, typeInfo, hi, hz]
set_option maxHeartbeats 16000000 in
set_option maxRecDepth 100000 in
theorem sone_any (aT : Option Addr) (n dT : Nat) (l : List Tk) (aF : Option Addr) (nF cF : Nat) (fs : List Int) (a : Option Addr) (m c : Nat) (lt : List Int) (en : Int) (w : World) (hT : IsTks w aT n dT l) (hF : IsNs w aF nF cF fs) (hL : IsNs w a m c lt) (hS : SizesAt w) (hR : RulesAt w) :
    Calls Tryd.prog 6 #[.slice aT n dT, .slice aF nF cF, .slice a m c, .int .i64 en] w fun e w' => e = .returned (.bool true) ∧ Below w.heap.size w w' := by
  have HP := Hid.mk (play_any aT n dT l aF nF cF fs a m c lt en w hT hF hL hS hR)
  have HT := Hid.mk hT
  have HF := Hid.mk hF
  have HS := Hid.mk hS
  have HR := Hid.mk hR
  have HLN := Hid.mk hT.len
  have HFL := Hid.mk hF.len
  have HFA := Hid.mk (play_facts (l := l) (fs := fs) (lt := lt) (en := en))
  generalize playE l fs lt en = Z at *
  generalize (playR l fs lt en).2 = Q at *
  have hmm := @run_makeMap Tryd.prog
  have law := int_keyed (P := Tryd.prog) Tryd.underlying3
  clear hT hF hL hS hR
  go_enter Tryd.func6, Tryd.ntmps6
  go_wp2_with fail
  refine HP.out.mono ?_
  rintro e w1 ⟨vS, S, rfl, hpi, hb1⟩
  have HPI := Hid.mk hpi
  have HB1 := Hid.mk hb1
  clear hpi hb1 HP
  have HPL := Hid.mk (fun W (hb : Below w.heap.size w W) => played_any W (HS.out.kept hb) (HR.out.kept hb))
  by_cases hz : Z = 0
  · subst hz
    obtain ⟨h0, hA, he0, he1, hfl, -⟩ := HFA.out rfl
    have hpl := HPI.out.play rfl
    have hln := play_len hA hpl
    obtain ⟨b, d, hv, hI, -, -⟩ := sls_own (HPI.out.own rfl)
    obtain ⟨ml, hml⟩ : ∃ ml, ml = S.length := ⟨_, rfl⟩
    have HONE := Hid.mk (fun (k : Nat) (hk : k < ml) => one_at h0 hA hpl (k := k) (by rw [← hml]; exact hk))
    rw [← hml] at hv hI hln
    subst hv
    have HI := Hid.mk hI
    have HML := Hid.mk hml
    have hml1 := hln.2
    have HLQ := Hid.mk hln.1
    have HSM := Hid.mk (HPI.out.small rfl)
    obtain ⟨en', rfl⟩ : ∃ e' : Nat, en = e' := ⟨en.toNat, by omega⟩
    rw [Int.toNat_natCast] at hA
    have HAK := Hid.mk hA
    have HKN := Hid.mk (fun (x : Sl) (hx : x ∈ S) => show x.k < n by have := (hA.run h0 hpl).2 x hx; rw [HLN.out] at this; exact this)
    have hn20 : n ≤ 20 := by have := (chkT_ok h0).1; have := HLN.out; omega
    have HOK := Hid.mk (chkT_ok h0).2
    have HFN : Hid (nF = n) := Hid.mk (by rw [← HFL.out, hfl, HLN.out])
    clear h0 hA hpl hln hI hml HPI HFA he0 hfl
    go_wp2_with fail
    refine (HPL.out _ HB1.out).mono ?_
    rintro e w2 ⟨rfl, hb2⟩
    have HB2 := Hid.mk (bl2 HB1.out (bl2 hb2 (awD w2 (.map #[] 0))))
    have HBZ := Hid.mk (bl2 HB1.out hb2)
    have HI2 := Hid.mk (HI.out.kept (bl2 hb2 (awD w2 (.map #[] 0))))
    have HM2 := Hid.mk (World.ownsMap_made (H := Value) w2 Tryd.prog 3 (plainElem Tryd.prog 3))
    clear hb2 HPL HI
    go_wp2_with fail
    clear hmm
    generalize hw3 : w2.alloc (.map #[] 0) = w3 at *
    obtain ⟨bm, hbm⟩ : ∃ bm, bm = w2.heap.size := ⟨_, rfl⟩
    have HBM : Hid (w.heap.size ≤ bm) := Hid.mk (by rw [hbm]; exact HBZ.out.size)
    rw [← hbm] at HM2 ⊢
    clear hw3 hbm
    go_loopw [11, 39] (fun s11 s39 wr => ∃ (k now : Nat) (D : DVs), k ≤ ml ∧ s39 = .int .i64 k ∧ s11 = .int .i64 now ∧ Hid (now = nowN (Sb.cT l) S k) ∧ Hid (wr.ownsMap Tryd.prog 3 (plainElem Tryd.prog 3) bm k D) ∧ Hid (Lst D (S.take k)) ∧ Hid (IsSls wr b ml (Sb.cT l) S) ∧ Hid (Below w.heap.size w wr)) (fun _ i _ => ml - (intOf i).toNat)
    case atStart => exact ⟨0, 0, _, Nat.zero_le _, rfl, rfl, Hid.mk rfl, HM2, Hid.mk Lst.nil, HI2, HB2⟩
    case round =>
      clear HM2 HI2 HB2
      obtain ⟨k, now, D, hk, rfl, rfl, HNW, HM, HLS, HI, HB⟩ := hrel
      rename World => wo
      by_cases hlt : k < ml
      · have hlt' : (k : Int) < (ml : Int) := by omega
        obtain ⟨x, rfl⟩ := HI.out.some hlt
        obtain ⟨a0, a1, a2, a3⟩ := HI.out.cell x rfl k hlt
        obtain ⟨o1, o2, o3, o4⟩ := HONE.out k hlt
        have hmem := getD_memS (L := S) (k := k) (by rw [← HML.out]; exact hlt)
        have hbb := HSM.out _ hmem
        have HTK := Hid.mk (take_snocS (L := S) (k := k) (by rw [← HML.out]; exact hlt))
        have HNX : Hid (nowN (Sb.cT l) S (k + 1) = (S.getD k noS).s + Sb.cT l (S.getD k noS).k) := Hid.mk rfl
        have HKB : Hid ((S.getD k noS).k ≤ 3000000) := Hid.mk (by have := HKN.out _ hmem; omega)
        rw [← HNW.out] at o1
        obtain ⟨P, hP⟩ : ∃ P, P = S.getD k noS := ⟨_, rfl⟩
        rw [← hP] at a0 a1 a2 a3 o1 o2 o3 o4 hbb HTK HNX HKB
        clear hP hmem
        obtain ⟨K, D0, A, S0⟩ := P
        simp only at a0 a1 a2 a3 o1 o2 o3 o4 hbb HNX HKB
        have HES : Hid (S0 < S0 + Sb.cT l K) := Hid.mk (by omega)
        generalize S0 + Sb.cT l K = E at *
        have hb3 := awD wo (.cells #[.int .i64 (K : Int), .int .i64 (D0 : Int), .int .i64 (S0 : Int), .int .i64 (E : Int)] 38)
        have hh := heap_alloc_new wo (.cells #[.int .i64 (K : Int), .int .i64 (D0 : Int), .int .i64 (S0 : Int), .int .i64 (E : Int)] 38)
        have v0 : (wo.alloc (.cells #[.int .i64 (K : Int), .int .i64 (D0 : Int), .int .i64 (S0 : Int), .int .i64 (E : Int)] 38)).cell? ⟨wo.heap.size, 0, none⟩ = some (.int .i64 (K : Int)) := cell_of_row _ _ 0 _ _ _ hh
        have v1 : (wo.alloc (.cells #[.int .i64 (K : Int), .int .i64 (D0 : Int), .int .i64 (S0 : Int), .int .i64 (E : Int)] 38)).cell? ⟨wo.heap.size, 1, none⟩ = some (.int .i64 (D0 : Int)) := cell_of_row _ _ 1 _ _ _ hh
        have v2 : (wo.alloc (.cells #[.int .i64 (K : Int), .int .i64 (D0 : Int), .int .i64 (S0 : Int), .int .i64 (E : Int)] 38)).cell? ⟨wo.heap.size, 2, none⟩ = some (.int .i64 (S0 : Int)) := cell_of_row _ _ 2 _ _ _ hh
        have v3 : (wo.alloc (.cells #[.int .i64 (K : Int), .int .i64 (D0 : Int), .int .i64 (S0 : Int), .int .i64 (E : Int)] 38)).cell? ⟨wo.heap.size, 3, none⟩ = some (.int .i64 (E : Int)) := cell_of_row _ _ 3 _ _ _ hh
        have HM1 := Hid.mk (HM.out.alloc (.cells #[.int .i64 (K : Int), .int .i64 (D0 : Int), .int .i64 (S0 : Int), .int .i64 (E : Int)] 38))
        have HI1 := Hid.mk (HI.out.kept hb3)
        have HB3 := Hid.mk (bl2 HB.out hb3)
        have HLT : Hid (bm < wo.heap.size) := Hid.mk HM.out.lt
        have hkey : keyOf Tryd.prog 3 (.int .i64 (K : Int)) = some (kI K) := keyOf_int_mk Tryd.underlying3 (wf_smallS HKB.out)
        have HKY := Hid.mk hkey
        have HWF := Hid.mk (wf_smallS (a := D0) (by omega))
        have t1 : ¬ ((S0 : Int) < (now : Int)) := by omega
        have t2 : ¬ ((S0 : Int) < (D0 : Int)) := by omega
        have t3 : ¬ ((E : Int) ≤ (S0 : Int)) := by have := HES.out; omega
        have HO4 := Hid.mk o4
        have HPUT := Hid.mk (HLS.out.put (World.ownsMap.tidy HM.out law) ⟨K, D0, A, S0⟩)
        obtain ⟨KL, hKL⟩ : ∃ KL, KL = kI K := ⟨_, rfl⟩
        rw [← hKL] at HKY
        have HKLE := Hid.mk hKL
        clear hh hb3 o1 o2 o3 o4 hbb HM HI HB hkey hKL
        cases hq : Maps.has D KL with
        | false =>
          go_wp2_with (at_lookup; refine wpList_lookup_own_ok_int _ rfl _ _ 50 rfl 3 3 .i64 law Tryd.underlying50 Tryd.underlying3 (zero_intS _) bm k D rfl HM1.out _ KL rfl HKY.out ?_; intro cc hat hwc; clear hat hwc; rw [hq])
          generalize wo.alloc (.cells #[.int .i64 (K : Int), .int .i64 (D0 : Int), .int .i64 (S0 : Int), .int .i64 (E : Int)] 38) = W1 at *
          obtain ⟨w9, hrun9, hown9, hg9⟩ := World.ownsMap.update (World.ownsMap.drew HM1.out) law Tryd.underlying50 (by unfold maxLen; omega) HKY.out (plainElem_int Tryd.underlying3 HWF.out)
          have g0 := cell_grown hg9 (y := ⟨wo.heap.size, 0, none⟩) v0 (by have := HLT.out; simp; omega)
          have g1 := cell_grown hg9 (y := ⟨wo.heap.size, 1, none⟩) v1 (by have := HLT.out; simp; omega)
          have g3 := cell_grown hg9 (y := ⟨wo.heap.size, 3, none⟩) v3 (by have := HLT.out; simp; omega)
          have HM9 := Hid.mk hown9
          have HI9 := Hid.mk (sls_beside (HI1.out.kept (below_drD (Below.refl _ _) 1)) (World.ownsMap.drew HM1.out) hg9)
          have HB9 := Hid.mk (Below.grown (below_drD HB3.out 1) hg9 (below_drD HB3.out 1).size (fun q hq => by cases hq; exact HBM.out))
          clear hown9 hg9
          go_region
          all_goals focus
            go_wp2_with fail
            go_roundw
            case rel => exact ⟨k + 1, E, _, by omega, by go_num, by go_num, Hid.mk HNX.out.symm, HM9, Hid.mk (by rw [HTK.out, HKLE.out]; exact HPUT.out), HI9, HB9⟩
            case measure => simp [intOf]; omega
        | true =>
          obtain ⟨y, hy1, hy2, hy3⟩ := HLS.out K (.lit (.int .i64 0)) (by rw [← HKLE.out]; exact hq)
          have hyd := HO4.out y hy1 hy2
          rw [← HKLE.out] at hy3
          have HY3 := Hid.mk hy3
          obtain ⟨YD, hYD⟩ : ∃ YD, YD = y.d := ⟨_, rfl⟩
          rw [← hYD] at hyd HY3
          have t4 : ¬ ((D0 : Int) ≤ (YD : Int)) := by omega
          have t5 : decide ((D0 : Int) ≤ (YD : Int)) = false := decide_eq_false t4
          clear hy1 hy2 hy3 hyd hYD
          go_wp2_with (at_lookup; refine wpList_lookup_own_ok_int _ rfl _ _ 50 rfl 3 3 .i64 law Tryd.underlying50 Tryd.underlying3 (zero_intS _) bm k D rfl HM1.out _ KL rfl HKY.out ?_; intro cc hat hwc; have hcc : cc = (YD : Int) := (by have h1 := hat.symm.trans HY3.out; simpa using h1); clear hat hwc; subst hcc; rw [hq])
          generalize wo.alloc (.cells #[.int .i64 (K : Int), .int .i64 (D0 : Int), .int .i64 (S0 : Int), .int .i64 (E : Int)] 38) = W1 at *
          obtain ⟨w9, hrun9, hown9, hg9⟩ := World.ownsMap.update (World.ownsMap.drew HM1.out) law Tryd.underlying50 (by unfold maxLen; omega) HKY.out (plainElem_int Tryd.underlying3 HWF.out)
          have g0 := cell_grown hg9 (y := ⟨wo.heap.size, 0, none⟩) v0 (by have := HLT.out; simp; omega)
          have g1 := cell_grown hg9 (y := ⟨wo.heap.size, 1, none⟩) v1 (by have := HLT.out; simp; omega)
          have g3 := cell_grown hg9 (y := ⟨wo.heap.size, 3, none⟩) v3 (by have := HLT.out; simp; omega)
          have HM9 := Hid.mk hown9
          have HI9 := Hid.mk (sls_beside (HI1.out.kept (below_drD (Below.refl _ _) 1)) (World.ownsMap.drew HM1.out) hg9)
          have HB9 := Hid.mk (Below.grown (below_drD HB3.out 1) hg9 (below_drD HB3.out 1).size (fun q hq => by cases hq; exact HBM.out))
          clear hown9 hg9
          go_region
          all_goals focus
            go_wp2_with fail
            go_roundw
            case rel => exact ⟨k + 1, E, _, by omega, by go_num, by go_num, Hid.mk HNX.out.symm, HM9, Hid.mk (by rw [HTK.out, HKLE.out]; exact HPUT.out), HI9, HB9⟩
            case measure => simp [intOf]; omega
      · obtain rfl : k = ml := by omega
        clear HM HLS HI HNW
        go_wp2_with fail
        go_loopw [17, 85] (fun s17 s85 wr => ∃ (i N : Nat), i ≤ n ∧ s85 = .int .i64 i ∧ s17 = .int .i64 N ∧ Hid (N = Sb.lens (Q.take i)) ∧ Hid (Below w.heap.size w wr)) (fun _ i _ => n - (intOf i).toNat)
        case atStart => exact ⟨0, 0, Nat.zero_le _, rfl, rfl, Hid.mk rfl, HB⟩
        case round =>
          clear HB
          obtain ⟨i, N, hi, rfl, rfl, HN, HB⟩ := hrel
          rename World => wp
          by_cases hlt2 : i < n
          · have hlt2' : (i : Int) < (n : Int) := by omega
            obtain ⟨x, rfl⟩ := HT.out.some hlt2
            obtain ⟨y, rfl⟩ := HF.out.some (show i < nF by rw [HFN.out]; exact hlt2)
            have hnF : (i : Int) < (nF : Int) := by have := HFN.out; omega
            obtain ⟨c0, c1, c2, c3, c4⟩ := (HT.out.kept HB.out).cell x rfl i hlt2
            obtain ⟨r, hr⟩ : ∃ r, r = l.getD i noT := ⟨_, rfl⟩
            obtain ⟨f, hf⟩ : ∃ f, f = fs.getD i 0 := ⟨_, rfl⟩
            have hil : i < l.length := by rw [HLN.out]; exact hlt2
            have hg := HAK.out.row i hil
            have htm := Sb.isTm_iff.1 (HAK.out.tm i hil)
            have hrok := HOK.out _ (getD_memT hil)
            have hlq := lens_take (Q := Q) (i := i) (by rw [HAK.out.len]; exact hil)
            have hlq2 := lens_take_le (Q := Q) (i + 1)
            rw [← hr] at c0 c1 c2 c3 c4 hg hrok
            rw [← hf] at hg htm
            obtain ⟨q1, q2, q3, q4, q5, q6, q7, -⟩ := okT_n hrok
            have hb1 := awD wp (tkC r)
            have HB1' := Hid.mk (bl2 HB.out hb1)
            have HV := Hid.mk (TkAt.new wp r)
            have f0 := (HF.out.kept HB1'.out).cell y rfl i (by rw [HFN.out]; exact hlt2)
            rw [← hf] at f0
            obtain ⟨F, rfl⟩ : ∃ F : Nat, f = F := ⟨f.toNat, by omega⟩
            rw [Int.toNat_natCast] at hg
            obtain ⟨LEN, hLEN⟩ : ∃ LEN, LEN = (Q.getD i []).length := ⟨_, rfl⟩
            rw [← hLEN, ← HN.out] at hlq
            obtain ⟨T, hTN⟩ : ∃ T, T = tN r := ⟨_, rfl⟩
            have HG1 := Hid.mk (fun j (hj : j < LEN) => show F + j * T < en' by have := hg.1 j (by rw [← hLEN]; exact hj); rw [hTN]; omega)
            have HG2 : Hid (en' ≤ F + LEN * T) := Hid.mk (by have := hg.2; rw [hTN, hLEN]; exact this)
            rw [← hTN] at q3 q4 q6
            have HLX : Hid (N + LEN = Sb.lens (Q.take (i + 1))) := Hid.mk hlq.symm
            have hNL : N + LEN ≤ 1000 := by have := HLQ.out; omega
            have hFb : (F : Int) ≤ 1000000 := htm.2
            have heb : (en' : Int) ≤ 1000000 := he1
            have q4' : (T : Int) ≤ 1000000 := by omega
            have q3' : 1 ≤ (T : Int) := by omega
            have q6' := q6
            clear hr hf hb1 hrok q1 q2 q5 q6 q7 hTN hg htm hlq hlq2 hLEN hil
            obtain ⟨id, by_, ev, la, ji⟩ := r
            simp only at q6'
            subst q6'
            unfold tkC at HB1' HV f0
            simp only at c0 c1 c2 c3 c4 HB1' HV f0
            obtain ⟨g0, g1, g2, g3, g4⟩ := HV.out
            simp only at g0 g1 g2 g3 g4
            go_wp2_with fail
            generalize wp.alloc (.cells #[.int .i64 id, .int .i64 by_, .int .i64 (T : Int), .int .i64 la, .int .i64 ji] 31) = W1 at *
            go_loopw [17, 20] (fun s17 s20 wz => ∃ (j AT : Nat), j ≤ LEN ∧ s17 = .int .i64 ((N + j : Nat) : Int) ∧ s20 = .int .i64 AT ∧ AT ≤ 2000000 ∧ Hid (AT = F + j * T) ∧ Hid (Below W1.heap.size W1 wz)) (fun _ d _ => 3000000 - (intOf d).toNat)
            case atStart => exact ⟨0, F, Nat.zero_le _, rfl, rfl, by omega, Hid.mk (by omega), Hid.mk (Below.refl _ _)⟩
            case round =>
              obtain ⟨j, AT, hj, rfl, rfl, hAT, HAT, HBz⟩ := hrel
              rename World => wz
              obtain ⟨g0, g1, g2, g3, g4⟩ := HV.out.kept HBz.out
              simp only at g0 g1 g2 g3 g4
              by_cases hjl : j < LEN
              · have hle : (AT : Int) < (en' : Int) := by have := HG1.out j hjl; rw [← HAT.out] at this; omega
                have HATN : Hid (AT + T = F + (j + 1) * T) := Hid.mk (by rw [HAT.out, Nat.add_mul, Nat.one_mul]; omega)
                obtain ⟨NJ, hNJ⟩ : ∃ NJ, NJ = N + j := ⟨_, rfl⟩
                rw [← hNJ]
                have HNJ : Hid (((NJ : Int) + 1) = ((N + (j + 1) : Nat) : Int)) := Hid.mk (by omega)
                have hNJb : (NJ : Int) ≤ 1000 := by omega
                have hATb : (AT : Int) ≤ 2000000 := by omega
                clear hNJ
                go_wp2_with fail
                go_roundw
                case rel => exact ⟨j + 1, AT + T, by omega, int_eq HNJ.out, by go_num, by omega, HATN, HBz⟩
                case measure => simp [intOf]; omega
              · obtain rfl : j = LEN := by omega
                have hle : ¬ ((AT : Int) < (en' : Int)) := by have := HG2.out; rw [← HAT.out] at this; omega
                clear hjl
                obtain ⟨NJ, hNJ⟩ : ∃ NJ, NJ = N + j := ⟨_, rfl⟩
                rw [← hNJ]
                rw [← hNJ] at HLX
                clear hNJ
                go_wp2_with fail
                go_roundw
                case rel => exact ⟨i + 1, NJ, by omega, by go_num, rfl, HLX, Hid.mk (bl2 HB1'.out HBz.out)⟩
                case measure => simp [intOf]; omega
          · obtain rfl : i = n := by omega
            obtain rfl : N = k := by
              rw [HN.out, HLQ.out, List.take_of_length_le (by rw [HAK.out.len, HLN.out]; exact Nat.le_refl _)]
            go_wp2_with fail
            go_ret
            refine ⟨?_, HB.out⟩
            simp
  · have hzb : (Z != 0) = true := by simpa using hz
    clear hz
    go_wp2_with fail
    refine (HPL.out _ HB1.out).mono ?_
    rintro e w2 ⟨rfl, hb2⟩
    have HB2 := Hid.mk (bl2 HB1.out hb2)
    clear hb2
    go_wp2_with fail
    refine (HPL.out _ HB2.out).mono ?_
    rintro e w3 ⟨rfl, hb3⟩
    have HB3 := Hid.mk (bl2 HB2.out hb3)
    clear hb3
    go_wp2_with fail
    go_ret
    exact ⟨rfl, HB3.out⟩
end Bw
end Go.Proofs.YtnhnemmddgofnaaDoor
