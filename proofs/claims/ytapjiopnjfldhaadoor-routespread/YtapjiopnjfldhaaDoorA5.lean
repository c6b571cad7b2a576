/- What filter.Least answers. -/
import Derived.WalkKit
import Derived.OwnWalk
import Derived.OneCell
import Derived.Laws.AppendOwn
import Derived.Test.YtapjiopnjfldhaaDoorA4
namespace Go.Proofs.YtapjiopnjfldhaaDoor
open Go.RowKit
namespace Bw
theorem run_append_two {P : Program} (w : World) (base : Nat) (t ty e : TypeId) (i : TypeInfo) (z : Value) (size bytes : Nat) (ht : P.underlying t = some (.slice e)) (hi : P.info? e = some i) (hz : i.zero = some z)
    (hsize : i.size = size) (hby : i.bytes = bytes) (hzs : z.cells.size = size) (hsz : 0 < size)
    (v : Value) (n : Nat) (xs : List Value) (hown : w.ownsRow base e size v n xs)
    (a : Addr) (m c : Nat) (news : List Value) (hl : news.length = m * size) (hnews : ∀ j u, news[j]? = some u → w.cell? (a.add j) = some u) (h1 : ∀ u ∈ news, u.oneCell' = true)
    (h0 : 0 < m) (h63 : n + m ≤ maxLen) (hbytes : (n + m) * bytes ≤ 140737488355328) (hbase : base ≤ w.heap.size) :
    ∃ v' w', (Builtin.append_ #[t, t] ty #[v, .slice (some a) m c]).run P w = .ok v' w' ∧ w'.ownsRow base e size v' (n + m) (xs ++ news) ∧ w.grownBy w' v.ownBlock ∧ (v'.ownBlock = v.ownBlock ∨ v'.ownBlock = some w.heap.size) := by
  obtain ⟨v', w', hr, h2, h3, -⟩ := run_append_own (P := P) w base t ty e i z size bytes ht hi hz hsize hby hzs hsz v n xs hown a m c news hl hnews h1 h63 hbytes hbase
  refine ⟨v', w', hr, h2, h3, ?_⟩
  subst hsize
  subst hby
  have hsmall : n + m ≤ 9223372036854775807 := by simp only [maxLen] at h63; omega
  rcases hown.2 with ⟨rfl, rfl⟩ | ⟨g, cap, cur, rfl, hbg, hg, hnc, hcm, hcs, htake⟩
  · have hq := run_append_nil (P := P) w t ty e i z ht hi hz a m c news hl hnews h0 (by omega) (by have hb := hbytes; simp only [Nat.zero_add] at hb; omega)
    rw [hq] at hr
    injection hr with e1 e2
    right; rw [← e1]; rfl
  · by_cases hroom : n + m ≤ cap
    · have hfit : n * i.size + news.length ≤ cur.size := by rw [hl, hcs, ← Nat.add_mul]; exact Nat.mul_le_mul_right _ hroom
      have hq := run_append_room (P := P) w t ty e i ht hi g n cap cur hg a m c news hl hnews h1 hroom hfit
      rw [hq] at hr
      injection hr with e1 e2
      left; rw [← e1]; rfl
    · have holds : ∀ j u, xs[j]? = some u → w.cell? ((⟨g, 0, none⟩ : Addr).add j) = some u := hown.cells (g := g) rfl
      have hq := run_append_grow (P := P) w t ty e i z ht hi hz ⟨g, 0, none⟩ n cap xs hown.1 holds a m c news hl hnews (by omega) (by omega) (growslice_fits (by omega) hbytes)
      rw [hq] at hr
      injection hr with e1 e2
      right; rw [← e1]; rfl
theorem wpList_append_two {P : Program} {w : World} {ops : Array Oper} {rest : List Oper} {o : Oper} {a : Act} {Q : Exit → Act → World → Prop} (hgd : o.guard = none) (s x : Operand) (t : TypeId)
    (ho : o.op = .call { callee := .builtin .append, args := #[s, x], argTypes := #[t, t] })
    (base : Nat) (e : TypeId) (i : TypeInfo) (z : Value) (size bytes : Nat) (ht : P.underlying t = some (.slice e)) (hi : P.info? e = some i) (hz : i.zero = some z)
    (hsize : i.size = size) (hby : i.bytes = bytes) (hzs : z.cells.size = size) (hsz : 0 < size)
    (v : Value) (n : Nat) (xs : List Value) (hs : a.eval s = v) (hown : w.ownsRow base e size v n xs)
    (ad : Addr) (m c : Nat) (news : List Value) (hx : a.eval x = .slice (some ad) m c) (hl : news.length = m * size) (hnews : ∀ j u, news[j]? = some u → w.cell? (ad.add j) = some u) (h1 : ∀ u ∈ news, u.oneCell' = true)
    (h0 : 0 < m) (h63 : n + m ≤ maxLen) (hbytes : (n + m) * bytes ≤ 140737488355328) (hbase : base ≤ w.heap.size)
    (h : ∀ v' w', w'.ownsRow base e size v' (n + m) (xs ++ news) → w.grownBy w' v.ownBlock → (v'.ownBlock = v.ownBlock ∨ v'.ownBlock = some w.heap.size) → wpList P ops Q rest (a.put o.dst v') w') : wpList P ops Q (o :: rest) a w := by
  refine wpList_plain hgd fun K hK => ?_
  obtain ⟨v', w', hr, h2, h3, h4⟩ := run_append_two (P := P) w base t o.type e i z size bytes ht hi hz hsize hby hzs hsz v n xs hown ad m c news hl hnews h1 h0 h63 hbytes hbase
  unfold Oper.wp
  simp [execOp, ho, resolve, invoke, builtin, hs, hx, hr, Result.andThen]
  exact hK _ _ (h v' w' h2 h3 h4)
/-- another row stays as it was -/
theorem owns_beside {w w' : World} {base : Nat} {e : TypeId} {size : Nat} {v : Value} {n : Nat} {xs : List Value} {row : Option Nat} (h : w.ownsRow base e size v n xs) (hg : w.grownBy w' row) (hne : ∀ k, v.ownBlock = some k → some k ≠ row) : w'.ownsRow base e size v n xs := by
  obtain ⟨h1, h2⟩ := h
  refine ⟨h1, ?_⟩
  rcases h2 with h2 | ⟨g, cap, cur, hv, hgb, hh, r⟩
  · exact Or.inl h2
  · subst hv
    refine Or.inr ⟨g, cap, cur, rfl, hgb, ?_, r⟩
    rw [hg.block g (lt_of_block hh) (hne g rfl)]
    exact hh
/-- two rows lie apart -/
def ApartV (v u : Value) : Prop := ∀ k, v.ownBlock = some k → u.ownBlock ≠ some k
theorem ApartV.symm {v u : Value} (h : ApartV v u) : ApartV u v := fun k hk hv => h k hv hk
theorem apart_next {w : World} {base : Nat} {e : TypeId} {size : Nat} {v v' u : Value} {n : Nat} {xs : List Value} (h : ApartV v u) (hu : w.ownsRow base e size u n xs) (hb : v'.ownBlock = v.ownBlock ∨ v'.ownBlock = some w.heap.size) : ApartV v' u := by
  intro k hk hx
  rcases hb with hb | hb
  · exact h k (by rw [← hb]; exact hk) hx
  · rw [hb] at hk
    have := (World.ownsRow.lt hu k hx).2
    simp at hk
    omega
end Bw
end Go.Proofs.YtapjiopnjfldhaaDoor
namespace Go.Proofs.YtapjiopnjfldhaaDoor
open Go.ChangeShapes Go.WideShapes Go.ChangeAt Go.RowKit
namespace Bw
def Fl.n (x : Fl) : Fn := ⟨x.w.toNat, x.m.toNat, x.lo⟩
theorem f_n (x : Fn) : x.f.n = x := by unfold Fn.f Fl.n; simp
theorem goes_eq (l : List Fn) (i : Nat) (h : i < l.length) : goesN l i = (((l.take i).map Fn.f).any (fun y => holdsN y.n (l.getD i ⟨0, 0, false⟩)) || ((l.drop (i + 1)).map Fn.f).any (fun y => holdsN y.n (l.getD i ⟨0, 0, false⟩) && !holdsN (l.getD i ⟨0, 0, false⟩) y.n)) := by
  rw [Bool.eq_iff_iff, Bool.or_eq_true]
  unfold goesN
  simp only [List.any_eq_true, List.mem_range, List.mem_map]
  constructor
  · rintro ⟨k, hk, hg⟩
    unfold goesBy at hg
    split at hg
    · rename_i hki
      left
      refine ⟨_, ⟨l.getD k ⟨0, 0, false⟩, ?_, rfl⟩, by rw [f_n]; exact hg⟩
      rw [List.mem_take_iff_getElem]
      exact ⟨k, by omega, by simp [List.getD, hk]⟩
    · split at hg
      · rename_i hki
        right
        refine ⟨_, ⟨l.getD k ⟨0, 0, false⟩, ?_, rfl⟩, by rw [f_n]; exact hg⟩
        rw [List.mem_drop_iff_getElem]
        exact ⟨k - (i + 1), by omega, by simp [List.getD, show i + 1 + (k - (i + 1)) = k by omega, hk]⟩
      · cases hg
  · rintro (⟨y, ⟨z, hz, rfl⟩, hg⟩ | ⟨y, ⟨z, hz, rfl⟩, hg⟩)
    · rw [List.mem_take_iff_getElem] at hz
      obtain ⟨k, hk, rfl⟩ := hz
      refine ⟨k, by omega, ?_⟩
      rw [f_n] at hg
      unfold goesBy
      rw [if_pos (by omega)]
      simpa [List.getD, show k < l.length by omega] using hg
    · rw [List.mem_drop_iff_getElem] at hz
      obtain ⟨k, hk, rfl⟩ := hz
      refine ⟨i + 1 + k, by omega, ?_⟩
      rw [f_n] at hg
      unfold goesBy
      rw [if_neg (by omega), if_pos (by omega)]
      simpa [List.getD, show i + 1 + k < l.length by omega] using hg
theorem fils_take {w : World} {x : Addr} {n c : Nat} {l : List Fl} (h : IsFils w (some x) n c l) (k : Nat) (hk : k ≤ n) : IsFils w (some x) k c (l.take k) := by
  have hl := h.len
  refine ⟨by rw [List.length_take]; omega, Nat.le_trans hk h.le, h.max, (fun h => by cases h), fun y hy i hi => ?_⟩
  have e : (l.take k).getD i noF = l.getD i noF := by simp [List.getD, List.getElem?_take_of_lt hi]
  rw [e]
  exact h.cell y hy i (by omega)
theorem fils_drop {w : World} {x : Addr} {n c : Nat} {l : List Fl} (h : IsFils w (some x) n c l) (k : Nat) (hk : k ≤ n) : IsFils w (some (if c = k then x else x.add (k * 3))) (n - k) (c - k) (l.drop k) := by
  have hl := h.len
  have hc := h.le
  have hm := h.max
  refine ⟨by rw [List.length_drop]; omega, by omega, by omega, (fun h => by cases h), fun y hy i hi => ?_⟩
  rw [if_neg (by omega)] at hy
  cases hy
  have e : (l.drop k).getD i noF = l.getD (k + i) noF := by simp [List.getD]
  have ea : ∀ j, (x.add (k * 3)).add j = x.add (k * 3 + j) := fun j => by
    first | exact Addr.add_add _ _ _ | (unfold Addr.add; simp; omega)
  have h1 := h.cell x rfl (k + i) (by omega)
  rw [e, ea, ea, ea, show k * 3 + i * 3 = (k + i) * 3 by omega, show k * 3 + (i * 3 + 1) = (k + i) * 3 + 1 by omega, show k * 3 + (i * 3 + 2) = (k + i) * 3 + 2 by omega]
  exact h1
theorem elem_fil : Tryd.prog.elem 75 = 43 := by kernel_rfl
theorem size_fil (W : World) : (sizeOf 43).run Tryd.prog W = .ok 3 W := by simp [go_sem]
theorem und_fil : Tryd.prog.underlying 75 = some (.slice (Tryd.prog.elem 75)) := by rw [elem_fil]; exact Tryd.underlying75
theorem slice_h (x : Addr) (n c k : Nat) (hk : k ≤ c) (W : World) : (Instr.slice 75 (.slice (some x) n c) none (some (.int .i64 (k : Int))) none).run Tryd.prog W = .ok (.slice (some x) k c) W := by
  rw [run_slice_h (ht := und_fil) (h0 := by omega) (h2 := by omega), elem_fil, size_fil]
  simp [Result.andThen, sliced]
  intro _
  simp [Addr.add]
theorem slice_l (x : Addr) (n c k : Nat) (hk : k < n) (W : World) : (Instr.slice 75 (.slice (some x) n c) (some (.int .i64 ((k : Int) + 1))) none none).run Tryd.prog W = .ok (.slice (some (if c = k + 1 then x else x.add ((k + 1) * 3))) (n - (k + 1)) (c - (k + 1))) W := by
  rw [run_slice_l (ht := und_fil) (h0 := by omega) (h1 := by omega), elem_fil, size_fil]
  have e : ((k : Int) + 1).toNat = k + 1 := by omega
  simp only [Result.andThen, sliced, e]
  split <;> rfl
theorem least_more (l : List Fn) (k : Nat) : leastK l (k + 1) = leastK l k ++ (if goesN l k = true then [] else [bareN (l.getD k ⟨0, 0, false⟩)]) := rfl
theorem owns_base {w : World} {base base' : Nat} {e : TypeId} {size : Nat} {v : Value} {n : Nat} {xs : List Value} (h : w.ownsRow base e size v n xs) (hb : base' ≤ base) : w.ownsRow base' e size v n xs := by
  obtain ⟨h1, h2⟩ := h
  refine ⟨h1, ?_⟩
  rcases h2 with h2 | ⟨g, cap, cur, hv, hg, r⟩
  · exact Or.inl h2
  · exact Or.inr ⟨g, cap, cur, hv, Nat.le_trans hb hg, r⟩
theorem row3_at (W : World) (s : Nat) (hs : s = W.heap.size) (a b c : Value) (t : TypeId) : ∀ j u, [a, b, c][j]? = some u → (W.alloc (.cells #[a, b, c] t)).cell? ((⟨s, 0, none⟩ : Addr).add j) = some u := by
  subst hs
  have h := heap_alloc_new W (.cells #[a, b, c] t)
  intro j u hj
  have ea : (Addr.add ⟨W.heap.size, 0, none⟩ j) = ⟨W.heap.size, j, none⟩ := by simp [Addr.add]; exact fun h => h.symm
  rw [ea, cell_of_row _ _ j _ _ _ h, List.getElem?_toArray]
  exact hj
theorem grown_set (w : World) (p : Addr) (v : Value) : w.grownBy (w.setCell p v) (some p.block) :=
  ⟨rfl, rfl, rfl, by simp, fun k _ hk => heap_setCell_other w p k v (fun e => hk (by rw [e]))⟩
end Bw
end Go.Proofs.YtapjiopnjfldhaaDoor
