/- Who goes, as the law SchedPlay looks for it: plain facts. -/
import Derived.Test.YtnhnemmddgofnaaDoorSbPlayW
import Derived.Deep.RegionLaw
import Derived.Lib.SliceRun
import Derived.Test.YtnhnemmddgofnaaDoorSbBound
namespace Go.Proofs.YtnhnemmddgofnaaDoor
open Go.ChangeShapes Go.WideShapes Go.ChangeAt Go.RowKit
namespace Bw
set_option linter.unusedVariables false
def noA : Sb.Ask := ⟨0, 0, 0⟩
def akC (x : Sb.Ask) : List Value := [.int .i64 (x.k : Nat), .int .i64 (x.d : Nat), .int .i64 (x.a : Nat)]
def akCs (L : List Sb.Ask) : List Value := L.flatMap akC
theorem akCs_len : ∀ L : List Sb.Ask, (akCs L).length = L.length * 3
  | [] => rfl
  | x :: L => by
    have := akCs_len L
    unfold akCs at this ⊢
    rw [List.flatMap_cons, List.length_append, this, List.length_cons]
    simp only [akC, List.length_cons, List.length_nil]
    omega
theorem akCs_app (A B : List Sb.Ask) : akCs (A ++ B) = akCs A ++ akCs B := by unfold akCs; simp
theorem akCs_take (A : List Sb.Ask) (i : Nat) (h : i ≤ A.length) : (akCs A).take (i * 3) = akCs (A.take i) ∧ (akCs A).drop (i * 3) = akCs (A.drop i) := by
  have h1 : (akCs (A.take i)).length = i * 3 := by rw [akCs_len, List.length_take]; omega
  have e : akCs A = akCs (A.take i) ++ akCs (A.drop i) := by rw [← akCs_app, List.take_append_drop]
  rw [e]
  exact ⟨by rw [← h1, List.take_left], by rw [← h1, List.drop_left]⟩
theorem akCs_at : ∀ {L : List Sb.Ask} {i r : Nat}, i < L.length → r < 3 → (akCs L)[i * 3 + r]? = (akC (L.getD i noA))[r]?
  | [], _, _, h, _ => by simp at h
  | x :: L, 0, r, _, hr => by
    have e : akCs (x :: L) = akC x ++ akCs L := rfl
    rw [e, Nat.zero_mul, Nat.zero_add, List.getElem?_append_left (by show r < 3; exact hr)]
    rfl
  | x :: L, i + 1, r, h, hr => by
    have e : akCs (x :: L) = akC x ++ akCs L := rfl
    have h4 : (akC x).length = 3 := rfl
    have h1 := akCs_at (L := L) (i := i) (r := r) (by simp at h; omega) hr
    rw [e, List.getElem?_append_right (by omega), h4, show (i + 1) * 3 + r - 3 = i * 3 + r by omega, h1]
    rfl
theorem akCs_one (L : List Sb.Ask) : ∀ u ∈ akCs L, u.oneCell' = true := by
  intro u hu
  unfold akCs at hu
  obtain ⟨x, -, hx⟩ := List.mem_flatMap.1 hu
  unfold akC at hx
  simp at hx
  rcases hx with rfl | rfl | rfl <;> rfl
theorem info_ak : (Tryd.prog.info? 33).map (fun i => (i.zero, i.size, i.bytes)) = some (some (.agg #[.int .i64 0, .int .i64 0, .int .i64 0]), 3, 24) := by kernel_rfl
theorem grown_setS (w : World) (a : Addr) (v : Value) : w.grownBy (w.setCell a v) (some a.block) := ⟨rfl, rfl, rfl, by simp [World.setCell], fun k _ hk => Below.heap_setCell _ _ _ _ (fun e => hk (by rw [e]))⟩
theorem setCells_rowS (b : Nat) (t : TypeId) : ∀ (vs : List Value) (s : Nat) (cur : Array Value) (w : World), w.heap[b]? = some (.cells cur t (0, 0)) → s + vs.length ≤ cur.size →
    w.grownBy (w.setCells b s vs) (some b) ∧ ∃ cur', (w.setCells b s vs).heap[b]? = some (.cells cur' t (0, 0)) ∧ cur'.size = cur.size ∧ (∀ k, k < s → cur'[k]? = cur[k]?) ∧ (∀ j u, vs[j]? = some u → cur'[s + j]? = some u)
  | [], s, cur, w, h, _ => ⟨⟨rfl, rfl, rfl, Nat.le_refl _, fun _ _ _ => rfl⟩, cur, h, rfl, fun _ _ => rfl, fun j u hu => by simp at hu⟩
  | v :: vs, s, cur, w, h, hs => by
    have h1 : (w.setCell ⟨b, s, none⟩ v).heap[b]? = some (.cells (cur.setIfInBounds s v) t (0, 0)) := heap_setCell_same _ b s _ _ v h
    have hs' : s + 1 + vs.length ≤ (cur.setIfInBounds s v).size := by simp at hs ⊢; omega
    obtain ⟨hg, cur', k1, k2, k3, k4⟩ := setCells_rowS b t vs (s + 1) (cur.setIfInBounds s v) (w.setCell ⟨b, s, none⟩ v) h1 hs'
    have hg0 : w.grownBy (w.setCell ⟨b, s, none⟩ v) (some b) := grown_setS w ⟨b, s, none⟩ v
    refine ⟨⟨hg.os.trans hg0.os, hg.tape.trans hg0.tape, hg.output.trans hg0.output, Nat.le_trans hg0.size hg.size, fun k hk hne => ?_⟩, cur', k1, by rw [k2]; simp, fun k hk => ?_, fun j u hu => ?_⟩
    · have h2 := hg.block k (Nat.lt_of_lt_of_le hk hg0.size) hne
      exact h2.trans (hg0.block k hk hne)
    · rw [k3 k (by omega), Array.getElem?_setIfInBounds_ne (by omega)]
    · cases j with
      | zero =>
        simp only [List.getElem?_cons_zero, Option.some.injEq] at hu
        subst hu
        rw [Nat.add_zero, k3 s (by omega), Array.getElem?_setIfInBounds_self_of_lt (by simp at hs; omega)]
      | succ j =>
        have := k4 j u (by simpa using hu)
        rw [← this]
        congr 1
        omega
theorem zero_ak (w : World) : (zeroValue 33).run Tryd.prog w = .ok (.agg #[.int .i64 0, .int .i64 0, .int .i64 0]) w := by
  obtain ⟨i, hi, hz, -⟩ := info_partsD info_ak
  simp [zeroValue, typeInfo, hi, hz]
theorem run_clear_one (w : World) (ty : TypeId) (b o c : Nat) (hc : ∀ j, j < 3 → (w.cell? ⟨b, o + j, none⟩).isSome = true) (hf : ∀ j, j < 3 → w.frozen? ⟨b, o + j, none⟩ = false) :
    (Builtin.clear_ #[29] ty #[.slice (some ⟨b, o, none⟩) 1 c]).run Tryd.prog w = .ok (.tuple #[]) (w.setCells b o [.int .i64 0, .int .i64 0, .int .i64 0]) := by
  have hst := run_storeCells_cells (P := Tryd.prog) b o [.int .i64 0, .int .i64 0, .int .i64 0] 0 w (by simpa using hc) (by simpa using hf) (by intro v hv; simp at hv; subst hv; rfl)
  simp only [Nat.add_zero] at hst
  have hz : (Builtin.zeroCells (Value.agg #[.int .i64 0, .int .i64 0, .int .i64 0]).cells 1).toList = [.int .i64 0, .int .i64 0, .int .i64 0] := by kernel_rfl
  simp [Builtin.clear_, run_underlying Tryd.underlying29, hz, hst]
/-- the row without one of them -/
theorem del_row {w W1 W2 : World} {base g N cap i : Nat} {A : List Sb.Ask} (h : w.ownsRow base 33 3 (.slice (some ⟨g, 0, none⟩) N cap) N (akCs A)) (hA : A.length = N) (hi : i < N) (e1 : W1 = w.drew.setCells g (i * 3) (akCs (A.drop (i + 1)))) (e2 : W2 = W1.setCells g ((N - 1) * 3) [.int .i64 0, .int .i64 0, .int .i64 0]) :
    W2.ownsRow base 33 3 (.slice (some ⟨g, 0, none⟩) (N - 1) cap) (N - 1) (akCs (A.eraseIdx i)) ∧ w.grownBy W2 (some g) ∧ (∀ j, j < 3 → (W1.cell? ⟨g, (N - 1) * 3 + j, none⟩).isSome = true ∧ W1.frozen? ⟨g, (N - 1) * 3 + j, none⟩ = false) := by
  rcases h.2 with ⟨h1, h2⟩ | ⟨g', c', cur, h1, hb, hg, hnc, hcm, hcs, htk⟩
  · cases h1
  · simp only [Value.slice.injEq, Option.some.injEq, Addr.mk.injEq, and_true, true_and] at h1
    obtain ⟨rfl, rfl⟩ := h1
    have hl := akCs_len (A.drop (i + 1))
    rw [List.length_drop] at hl
    have hdr : w.drew.heap[g]? = some (.cells cur 33 (0, 0)) := hg
    have hN3 : N * 3 ≤ cap * 3 := Nat.mul_le_mul_right 3 hnc
    obtain ⟨g1, cur1, k1, k2, k3, k4⟩ := setCells_rowS g 33 (akCs (A.drop (i + 1))) (i * 3) cur w.drew hdr (by rw [hl, hcs, hA]; omega)
    rw [← e1] at g1 k1
    obtain ⟨g2, cur2, m1, m2, m3, m4⟩ := setCells_rowS g 33 [.int .i64 0, .int .i64 0, .int .i64 0] ((N - 1) * 3) cur1 W1 k1 (by rw [k2, hcs]; simp; omega)
    rw [← e2] at g2 m1
    have g0 : w.grownBy w.drew (some g) := ⟨rfl, rfl, rfl, Nat.le_refl _, fun _ _ _ => rfl⟩
    have hel : (A.eraseIdx i).length = N - 1 := by rw [List.length_eraseIdx_of_lt (by omega), hA]
    refine ⟨⟨by rw [akCs_len, hel], .inr ⟨g, cap, cur2, rfl, hb, m1, by omega, hcm, by rw [m2, k2, hcs], ?_⟩⟩, (g0.trans g1).trans g2, fun j hj => ⟨?_, frozen_of_row W1 g _ cur1 _ k1⟩⟩
    · have ee : akCs (A.eraseIdx i) = akCs (A.take i) ++ akCs (A.drop (i + 1)) := by rw [List.eraseIdx_eq_take_drop_succ, akCs_app]
      have htl : (akCs (A.take i)).length = i * 3 := by rw [akCs_len, List.length_take]; omega
      rw [ee]
      apply List.ext_getElem?
      intro q
      by_cases hq : q < (N - 1) * 3
      · rw [List.getElem?_take_of_lt hq, Array.getElem?_toList, m3 q hq]
        by_cases hqi : q < i * 3
        · rw [k3 q hqi, List.getElem?_append_left (by rw [htl]; exact hqi), ← (akCs_take A i (by omega)).1, List.getElem?_take_of_lt hqi, ← htk, List.getElem?_take_of_lt (by omega), Array.getElem?_toList]
        · rw [List.getElem?_append_right (by rw [htl]; omega), htl]
          have hin : q - i * 3 < (akCs (A.drop (i + 1))).length := by rw [hl, hA]; omega
          have := k4 (q - i * 3) _ (List.getElem?_eq_getElem hin)
          rw [show i * 3 + (q - i * 3) = q by omega] at this
          rw [this, List.getElem?_eq_getElem hin]
      · rw [List.getElem?_eq_none (by rw [List.length_take]; omega), List.getElem?_eq_none (by rw [List.length_append, htl, hl, hA]; omega)]
    · rw [cell_of_row W1 g ((N - 1) * 3 + j) cur1 _ _ k1]
      rw [Array.getElem?_eq_getElem (by rw [k2, hcs]; omega)]
      rfl
set_option maxHeartbeats 4000000 in
set_option maxRecDepth 100000 in
theorem del_any (base g N cap i J : Nat) (A : List Sb.Ask) (w : World) (h : w.ownsRow base 33 3 (.slice (some ⟨g, 0, none⟩) N cap) N (akCs A)) (hA : A.length = N) (hi : i < N) (hJ : J = i + 1) (hN : N ≤ 1001) :
    Calls Tryd.prog 10 #[.slice (some ⟨g, 0, none⟩) N cap, .int .i64 i, .int .i64 J] w fun e w' => e = .returned (.slice (some ⟨g, 0, none⟩) (N - 1) cap) ∧ w'.ownsRow base 33 3 (.slice (some ⟨g, 0, none⟩) (N - 1) cap) (N - 1) (akCs (A.eraseIdx i)) ∧ w.grownBy w' (some g) := by
  have mixed : Tryd.prog.follows Departure.mixedOrders = true := by kernel_rfl
  obtain ⟨i0, hi0, hz0, hz1, hz2⟩ := info_partsD info_ak
  have hcap : N ≤ cap ∧ cap ≤ maxLen := by
    rcases h.2 with ⟨h1, h2⟩ | ⟨g', c', cur, h1, hb, hg, hnc, hcm, r⟩
    · cases h1
    · simp only [Value.slice.injEq, Option.some.injEq, Addr.mk.injEq, and_true, true_and] at h1
      obtain ⟨rfl, rfl⟩ := h1
      exact ⟨hnc, hcm⟩
  obtain ⟨W1, hW1⟩ : ∃ W1, W1 = w.drew.setCells g (0 + i * 3) (akCs (A.drop (i + 1))) := ⟨_, rfl⟩
  obtain ⟨d1, d2, d3⟩ := del_row (W1 := W1) (W2 := W1.setCells g ((N - 1) * 3) [.int .i64 0, .int .i64 0, .int .i64 0]) h hA hi (by rw [hW1, Nat.zero_add]) rfl
  obtain ⟨news, hnews⟩ : ∃ news, news = akCs (A.drop (i + 1)) := ⟨_, rfl⟩
  rw [← hnews] at hW1
  have hlen : news.length = (N - J) * 3 := by rw [hnews, akCs_len, List.length_drop, hA, hJ]
  obtain ⟨AD, hAD, hsrc⟩ : ∃ AD : Addr, (if cap = J then some (⟨g, 0, none⟩ : Addr) else some ⟨g, J * 3, none⟩) = some AD ∧ Hid (∀ t u, news[t]? = some u → w.drew.cell? (AD.add t) = some u) := by
    by_cases hc : cap = J
    · refine ⟨⟨g, 0, none⟩, by simp [hc], fun t u hu => ?_⟩
      have h0 : news.length = 0 := by rw [hlen]; omega
      rw [List.length_eq_zero_iff.1 h0] at hu
      simp at hu
    · refine ⟨⟨g, J * 3, none⟩, by simp [hc], fun t u hu => ?_⟩
      rw [Addr.add_lit]
      rw [hnews, ← (akCs_take A (i + 1) (by omega)).2, List.getElem?_drop, ← hJ] at hu
      have := h.cells (g := g) rfl _ _ hu
      rw [addG] at this
      exact this
  have s1 : Hid (news.length = (N - J) * 3) := hlen
  have s2 : Hid (∀ u ∈ news, u.oneCell' = true) := by rw [hnews]; exact akCs_one _
  have s3 : Hid (∀ t, t < news.length → (w.drew.cell? ⟨g, 0 + i * 3 + t, none⟩).isSome = true ∧ w.drew.frozen? ⟨g, 0 + i * 3 + t, none⟩ = false) := by
    intro t ht
    rw [hlen] at ht
    have hv : i * 3 + t < (akCs A).length := by rw [akCs_len, hA]; omega
    have := h.cells (g := g) rfl _ _ (List.getElem?_eq_getElem hv)
    rw [addG] at this
    rw [Nat.zero_add]
    exact ⟨by show (w.cell? _).isSome = true; rw [this]; rfl, h.frozenAt _⟩
  have hcl : ∀ ty c, (Builtin.clear_ #[29] ty #[.slice (some ⟨g, (N - 1) * 3, none⟩) (N - (N - 1)) c]).run Tryd.prog W1 = .ok (.tuple #[]) (W1.setCells g ((N - 1) * 3) [.int .i64 0, .int .i64 0, .int .i64 0]) :=
    fun ty c => by rw [show N - (N - 1) = 1 by omega]; exact run_clear_one W1 ty g ((N - 1) * 3) c (fun j hj => (d3 j hj).1) (fun j hj => (d3 j hj).2)
  have HD1 := Hid.mk d1
  have HD2 := Hid.mk d2
  have hW : Hid (W1 = w.drew.setCells g (0 + i * 3) news) := hW1
  have HJ := Hid.mk hJ
  have hij : i < J := by omega
  have hJN : J ≤ N := by omega
  have hNc := hcap.1
  have hcm : cap ≤ 9223372036854775807 := by have := hcap.2; unfold maxLen at this; omega
  have hne : ((i : Int) == (J : Int)) = false := by rw [beq_eq_false_iff_ne]; omega
  have HN1 : Hid (i + (N - J) = N - 1) := Hid.mk (by omega)
  have hN1c : N - 1 ≤ cap := by omega
  have hN1N : N - 1 ≤ N := by omega
  have hic : i ≤ cap := by omega
  have hJc : J ≤ cap := by omega
  clear hW1 d1 d2 d3 hnews hlen hJ h hA hcap hi
  go_enter Tryd.func10, Tryd.ntmps10
  go_wp2_with fail
  go_region_law_o (refine step_append_room rfl (.tmp 22) (.tmp 25) 29 rfl 33 i0 3 Tryd.underlying29 hi0 hz1 g 0 i cap (by simp [Act.eval, Act.put]) AD (N - J) (cap - J) news (by simp [Act.eval, Act.put]) s1.out hsrc.out s2.out (by omega) s3.out ?_; rw [← hW.out])
  rw [HN1.out]
  go_wp2_with fail
  go_ret
  exact ⟨rfl, HD1.out, HD2.out⟩
end Bw
end Go.Proofs.YtnhnemmddgofnaaDoor
namespace Go.Proofs.YtnhnemmddgofnaaDoor
open Go.ChangeShapes Go.WideShapes Go.ChangeAt Go.RowKit
namespace Bw
open Sb (Ms Sl asks)
set_option linter.unusedVariables false
def mp (i : Nat) (ms : List Ms) : List Sb.Ask := ms.map fun m => ⟨i, m.1, m.2⟩
theorem asksF_snoc : ∀ (M : List (List Ms)) (i : Nat) (ms : List Ms), Sb.asksF i (M ++ [ms]) = Sb.asksF i M ++ mp (i + M.length) ms
  | [], i, ms => by simp [Sb.asksF, mp]
  | q :: M, i, ms => by
    have h := asksF_snoc M (i + 1) ms
    have e : (q :: M) ++ [ms] = q :: (M ++ [ms]) := rfl
    rw [e]
    unfold Sb.asksF
    rw [h, List.append_assoc, List.length_cons, show i + 1 + M.length = i + (M.length + 1) by omega]
theorem asks_snoc (M : List (List Ms)) (ms : List Ms) : asks (M ++ [ms]) = asks M ++ mp M.length ms := by
  have := asksF_snoc M 0 ms
  rw [Nat.zero_add] at this
  exact this
theorem mp_snoc (i : Nat) (ms : List Ms) (d q : Nat) : mp i (ms ++ [(d, q)]) = mp i ms ++ [⟨i, d, q⟩] := by unfold mp; simp
theorem mp_len (i : Nat) (ms : List Ms) : (mp i ms).length = ms.length := by simp [mp]
theorem ak_snoc {w : World} {B : Nat} {v : Value} {A : List Sb.Ask} {i d q : Nat} {z : Int} (hz : z = (q : Int)) (h : w.ownsRow B 33 3 v (A.length + 1) (akCs A ++ [.int .i64 (i : Int), .int .i64 (d : Int), .int .i64 z])) : w.ownsRow B 33 3 v (A ++ [(⟨i, d, q⟩ : Sb.Ask)]).length (akCs (A ++ [(⟨i, d, q⟩ : Sb.Ask)])) := by
  rw [List.length_append, List.length_singleton, akCs_app]
  subst hz
  exact h
theorem three_newD (w : World) (x y z : Value) (T : TypeId) : ∀ j v, ([x, y, z] : List Value)[j]? = some v → (w.alloc (.cells #[x, y, z] T)).cell? ((⟨w.heap.size, 0, none⟩ : Addr).add j) = some v := by
  intro j v hv
  match j, hv with
  | 0, hv => cases hv; exact cell_of_row _ _ 0 _ _ _ (heap_alloc_new w _)
  | 1, hv => cases hv; exact cell_of_row _ _ 1 _ _ _ (heap_alloc_new w _)
  | 2, hv => cases hv; exact cell_of_row _ _ 2 _ _ _ (heap_alloc_new w _)
theorem own_slice {w : World} {base : Nat} {e : TypeId} {size : Nat} {v : Value} {n : Nat} {xs : List Value} (h : w.ownsRow base e size v n xs) (h0 : 0 < n) : ∃ g c, v = .slice (some ⟨g, 0, none⟩) n c := by
  rcases h.2 with ⟨h1, h2⟩ | ⟨g, c, cur, h1, -⟩
  · omega
  · exact ⟨g, c, h1⟩
theorem own_slc {w : World} {base : Nat} {e : TypeId} {size : Nat} {v : Value} {n : Nat} {xs : List Value} (h : w.ownsRow base e size v n xs) : ∃ a c, v = .slice a n c := by
  rcases h.2 with ⟨h1, h2⟩ | ⟨g, c, cur, h1, -⟩
  · exact ⟨none, 0, by rw [h1, h2]⟩
  · exact ⟨_, c, h1⟩
theorem own_snS {w : World} {B : Nat} {v : Value} {C : Nat → Nat} {L : List Sl} {x : Sl} {c : List Value} (hc : c = slC C x) (h : w.ownsRow B 38 4 v (L.length + 1) (slCs C L ++ c)) : w.ownsRow B 38 4 v (L ++ [x]).length (slCs C (L ++ [x])) := by
  rw [slCs_snoc, List.length_append, List.length_singleton, ← hc]
  exact h
/-- between tasks: what is told so far -/
def LwO (Z : Sb.AR) (lt : List Int) (e : Nat) (P : List (Tk × Int)) (bad : Int) (i kk : Nat) (A : List Sb.Ask) : Prop :=
  (bad = 0 ∧ ∃ M room, M.length = i ∧ A = asks M ∧ room + A.length = 1000 ∧ kk ≤ A.length ∧ Z = Sb.runT lt e (P.drop i) M room kk) ∨ (bad ≠ 0 ∧ Z = (bad, []))
/-- amid one task's -/
def LwI (Z : Sb.AR) (lt : List Int) (e : Nat) (x : Tk) (K : List Ms → Nat → Nat → Sb.AR) (A0 : List Sb.Ask) (bad : Int) (i due kk : Nat) (A : List Sb.Ask) : Prop :=
  (bad = 0 ∧ ∃ ms room, A = A0 ++ mp i ms ∧ room + A.length = 1000 ∧ kk ≤ A.length ∧ Z = Sb.runI x lt e K room ms due kk) ∨ (bad ≠ 0 ∧ Z = (bad, []))
/-- the row of those that are to go, beside a variable at g -/
structure LwR (w2 wr : World) (g : Nat) (v : Value) (A : List Sb.Ask) : Prop where
  below : Below w2.heap.size w2 wr
  own : wr.ownsRow w2.heap.size 33 3 v A.length (akCs A)
  far : ∀ q, v.ownBlock = some q → q ≠ g
  lt : g < wr.heap.size
theorem LwR.kept {w2 wr w' : World} {g : Nat} {v : Value} {A : List Sb.Ask} (h : LwR w2 wr g v A) (hb : Below wr.heap.size wr w') : LwR w2 w' g v A :=
  ⟨bl2 h.below hb, ownsRow_below h.own hb, h.far, Nat.lt_of_lt_of_le h.lt hb.size⟩
theorem LwR.app {w2 wr w' : World} {g : Nat} {v v' : Value} {A : List Sb.Ask} {i d q : Nat} {z : Int} (h : LwR w2 wr g v A) (hz : z = (q : Int)) (hrow : w'.ownsRow w2.heap.size 33 3 v' (A.length + 1) (akCs A ++ [.int .i64 (i : Int), .int .i64 (d : Int), .int .i64 z])) (hg : wr.grownBy w' v.ownBlock) (hb : v'.ownBlock = v.ownBlock ∨ v'.ownBlock = some wr.heap.size) : LwR w2 w' g v' (A ++ [⟨i, d, q⟩]) := by
  refine ⟨Below.grown h.below hg h.below.size (fun k hk => (h.own.lt k hk).1), ak_snoc hz hrow, fun k hk => ?_, Nat.lt_of_lt_of_le h.lt hg.size⟩
  rcases hb with hb | hb
  · exact h.far k (by rw [← hb]; exact hk)
  · rw [hb] at hk
    have := Option.some.inj hk
    have := h.lt
    omega
theorem TkAt.beside {w2 wr w' : World} {g : Nat} {v : Value} {A : List Sb.Ask} {x : Tk} (h : TkAt wr g x) (hR : LwR w2 wr g v A) (hg : wr.grownBy w' v.ownBlock) : TkAt w' g x :=
  h.grown hg hR.lt (fun e => hR.far g e rfl)
end Bw
end Go.Proofs.YtnhnemmddgofnaaDoor
namespace Go.Proofs.YtnhnemmddgofnaaDoor
open Go.ChangeShapes Go.WideShapes Go.ChangeAt Go.RowKit
namespace Bw
open Sb (Ms Sl asks)
set_option linter.unusedVariables false
theorem ak_mem {A : List Sb.Ask} {k : Nat} (h : k < A.length) : A.getD k noA ∈ A := by simp [List.getD, h]
theorem ak_take {A : List Sb.Ask} {k : Nat} (h : k < A.length) : A.take (k + 1) = A.take k ++ [A.getD k noA] := by
  rw [List.take_succ_eq_append_getElem h]; simp [List.getD, h]
/-- the soonest so far -/
def SoonOk (A : List Sb.Ask) (k sn : Nat) : Prop := (∃ x ∈ A, x.a = sn) ∧ ∀ x ∈ A.take k, sn ≤ x.a
theorem SoonOk.start {A : List Sb.Ask} (h : 0 < A.length) : SoonOk A 0 (A.getD 0 noA).a := ⟨⟨_, ak_mem h, rfl⟩, fun x hx => by simp at hx⟩
theorem SoonOk.next {A : List Sb.Ask} {k sn : Nat} (h : SoonOk A k sn) (hk : k < A.length) : SoonOk A (k + 1) (min sn (A.getD k noA).a) := by
  obtain ⟨⟨x, hx, e⟩, h2⟩ := h
  constructor
  · by_cases hc : sn ≤ (A.getD k noA).a
    · exact ⟨x, hx, by rw [e]; omega⟩
    · exact ⟨_, ak_mem hk, by omega⟩
  · intro y hy
    rw [ak_take hk] at hy
    rcases List.mem_append.1 hy with hy | hy
    · have := h2 y hy; omega
    · rw [List.mem_singleton] at hy; subst hy; omega
/-- the best so far -/
def BestOk (A : List Sb.Ask) (tm k : Nat) (bs : Int) : Prop :=
  (bs = -1 ∧ ∀ x ∈ A.take k, ¬ x.a ≤ tm) ∨ ∃ j : Nat, j < k ∧ bs = j ∧ (A.getD j noA).a ≤ tm ∧ ∀ x ∈ A.take k, x.a ≤ tm → (A.getD j noA).k < x.k ∨ ((A.getD j noA).k = x.k ∧ (A.getD j noA).d ≤ x.d)
theorem BestOk.start (A : List Sb.Ask) (tm : Nat) : BestOk A tm 0 (-1) := .inl ⟨rfl, fun x hx => by simp at hx⟩
theorem BestOk.skip {A : List Sb.Ask} {tm k : Nat} {bs : Int} (h : BestOk A tm k bs) (hk : k < A.length) (hn : ¬ (A.getD k noA).a ≤ tm) : BestOk A tm (k + 1) bs := by
  rcases h with ⟨h1, h2⟩ | ⟨j, h1, h2, h3, h4⟩
  · refine .inl ⟨h1, fun x hx => ?_⟩
    rw [ak_take hk] at hx
    rcases List.mem_append.1 hx with hx | hx
    · exact h2 x hx
    · rw [List.mem_singleton] at hx; subst hx; exact hn
  · refine .inr ⟨j, by omega, h2, h3, fun x hx hxa => ?_⟩
    rw [ak_take hk] at hx
    rcases List.mem_append.1 hx with hx | hx
    · exact h4 x hx hxa
    · rw [List.mem_singleton] at hx; subst hx; exact absurd hxa hn
theorem BestOk.first {A : List Sb.Ask} {tm k : Nat} (h : BestOk A tm k (-1)) (hk : k < A.length) (hy : (A.getD k noA).a ≤ tm) : BestOk A tm (k + 1) (k : Int) := by
  rcases h with ⟨h1, h2⟩ | ⟨j, h1, h2, -⟩
  · refine .inr ⟨k, by omega, rfl, hy, fun x hx hxa => ?_⟩
    rw [ak_take hk] at hx
    rcases List.mem_append.1 hx with hx | hx
    · exact absurd hxa (h2 x hx)
    · rw [List.mem_singleton] at hx; subst hx; exact .inr ⟨rfl, Nat.le_refl _⟩
  · omega
theorem BestOk.better {A : List Sb.Ask} {tm k j : Nat} (h : BestOk A tm k (j : Int)) (hk : k < A.length) (hy : (A.getD k noA).a ≤ tm) (hb : (A.getD k noA).k < (A.getD j noA).k ∨ ((A.getD k noA).k = (A.getD j noA).k ∧ (A.getD k noA).d < (A.getD j noA).d)) : BestOk A tm (k + 1) (k : Int) := by
  rcases h with ⟨h1, h2⟩ | ⟨j', h1, h2, h3, h4⟩
  · omega
  · obtain rfl : j = j' := by omega
    refine .inr ⟨k, by omega, rfl, hy, fun x hx hxa => ?_⟩
    rw [ak_take hk] at hx
    rcases List.mem_append.1 hx with hx | hx
    · have := h4 x hx hxa
      omega
    · rw [List.mem_singleton] at hx; subst hx; exact .inr ⟨rfl, Nat.le_refl _⟩
theorem BestOk.keep {A : List Sb.Ask} {tm k j : Nat} (h : BestOk A tm k (j : Int)) (hk : k < A.length) (hb : (A.getD j noA).k < (A.getD k noA).k ∨ ((A.getD j noA).k = (A.getD k noA).k ∧ (A.getD j noA).d ≤ (A.getD k noA).d)) : BestOk A tm (k + 1) (j : Int) := by
  rcases h with ⟨h1, h2⟩ | ⟨j', h1, h2, h3, h4⟩
  · omega
  · obtain rfl : j = j' := by omega
    refine .inr ⟨j, by omega, rfl, h3, fun x hx hxa => ?_⟩
    rw [ak_take hk] at hx
    rcases List.mem_append.1 hx with hx | hx
    · exact h4 x hx hxa
    · rw [List.mem_singleton] at hx; subst hx; exact hb
open Classical in
theorem play_perm {C : Nat → Nat} {free : Nat} {l l' : List Sb.Ask} {S : List Sl} (h : Sb.Play C free l S) (hp : l.Perm l') : Sb.Play C free l' S := by
  induction h using Sb.Play.ind generalizing l' with
  | done free => rw [List.nil_perm.1 hp]; exact Sb.Play.done free
  | go free fr l b S hb hf ha hpr hi hS ih =>
    refine Sb.Play.go free fr l' b S (hp.mem_iff.1 hb) hf ha (fun x hx => hpr x (hp.mem_iff.2 hx)) ?_ (ih (hp.erase b))
    rcases hi with hi | hi
    · exact .inl hi
    · exact .inr (fun x hx => hi x (hp.mem_iff.2 hx))
open Classical in
/-- one goes -/
theorem best_step {C : Nat → Nat} {A0 A : List Sb.Ask} {S : List Sl} {free sn tm : Nat} (htm : tm = max free sn) (hP : ∀ S2, Sb.Play C free A S2 → Sb.Play C 0 A0 (S ++ S2)) (hs : SoonOk A A.length sn) {bs : Int} (hb : BestOk A tm A.length bs) :
    ∃ j : Nat, j < A.length ∧ bs = j ∧ ∀ S2, Sb.Play C (tm + C (A.getD j noA).k) (A.eraseIdx j) S2 → Sb.Play C 0 A0 ((S ++ [⟨(A.getD j noA).k, (A.getD j noA).d, (A.getD j noA).a, tm⟩]) ++ S2) := by
  obtain ⟨⟨x, hx, hxa⟩, hs2⟩ := hs
  rw [List.take_length] at hs2
  rcases hb with ⟨h1, h2⟩ | ⟨j, h1, h2, h3, h4⟩
  · rw [List.take_length] at h2
    exact absurd (by omega) (h2 x hx)
  · rw [List.take_length] at h4
    refine ⟨j, h1, h2, fun S2 hS2 => ?_⟩
    rw [List.append_assoc]
    apply hP
    have e : A.getD j noA = A[j] := by simp [List.getD, h1]
    have hpm : (A.eraseIdx j).Perm (A.erase (A.getD j noA)) := by
      have p1 : (A[j] :: A.eraseIdx j).Perm A := by
        have h5 := List.perm_middle (a := A[j]) (l₁ := A.take j) (l₂ := A.drop (j + 1))
        rw [← List.drop_eq_getElem_cons h1, List.take_append_drop] at h5
        rw [List.eraseIdx_eq_take_drop_succ]
        exact h5.symm
      have p2 := List.perm_cons_erase (a := A.getD j noA) (ak_mem h1)
      rw [← e] at p1
      exact (p1.trans p2).cons_inv
    refine Sb.Play.go free tm A (A.getD j noA) S2 (ak_mem h1) (by omega) h3 h4 ?_ (play_perm hS2 hpm)
    by_cases hc : sn ≤ free
    · left; omega
    · right
      intro y hy
      have := hs2 y hy
      omega
theorem ak_cells {w : World} {base g N cap : Nat} {A : List Sb.Ask} (h : w.ownsRow base 33 3 (.slice (some ⟨g, 0, none⟩) N cap) N (akCs A)) {k : Nat} (hk : k < A.length) : w.cell? ⟨g, k * 3, none⟩ = some (.int .i64 ((A.getD k noA).k : Nat)) ∧ w.cell? ⟨g, k * 3 + 1, none⟩ = some (.int .i64 ((A.getD k noA).d : Nat)) ∧ w.cell? ⟨g, k * 3 + 2, none⟩ = some (.int .i64 ((A.getD k noA).a : Nat)) := by
  have hq : ∀ r u, r < 3 → (akC (A.getD k noA))[r]? = some u → w.cell? ⟨g, k * 3 + r, none⟩ = some u := fun r u hr hu => by
    have := h.cells (g := g) rfl (k * 3 + r) u (by rw [akCs_at hk hr]; exact hu)
    rw [addG] at this
    exact this
  exact ⟨hq 0 _ (by omega) rfl, hq 1 _ (by omega) rfl, hq 2 _ (by omega) rfl⟩
end Bw
end Go.Proofs.YtnhnemmddgofnaaDoor
