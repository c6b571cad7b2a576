/- Rows of parts: of one's own, and to be read. -/
import Derived.Test.YtgjnfmbmndnihaaPtFirst
import Derived.Test.YtgjnfmbmndnihaaAppTwo
namespace Go.Proofs.Ytgjnfmbmndnihaa
open Go.ChangeShapes Go.WideShapes Go.ChangeAt Go.RowKit
namespace Bw
open Bm
theorem info_bs : (Try.prog.info? 22).map (fun i => (i.zero, i.size, i.bytes)) = some (some (.slice none 0 0), 1, 24) := by kernel_rfl
theorem blk_lt {w : World} {a : Addr} {v : Value} (hc : w.cell? a = some v) : a.block < w.heap.size := by
  rcases Nat.lt_or_ge a.block w.heap.size with h | h
  · exact h
  · unfold World.cell? at hc
    rw [Array.getElem?_eq_none h] at hc
    simp at hc
theorem isBytes_grownP {w w' : World} {row : Option Nat} {x : Addr} {len cap : Nat} {l : List UInt8} (h : IsBytes w (some x) len cap l) (hg : w.grownBy w' row) (hne : row ≠ some x.block) : IsBytes w' (some x) len cap l := by
  refine ⟨h.1, h.2.1, h.2.2.1, h.2.2.2.1, fun y hy i hi => ?_⟩
  have hv := h.2.2.2.2 y hy i hi
  cases hy
  have hlt := blk_lt hv
  have hblk : (x.add i).block = x.block := by unfold Addr.add; split <;> rfl
  unfold World.cell? at hv ⊢
  rw [hg.block _ hlt (by rw [hblk]; exact fun e => hne e.symm)]
  exact hv
/-- a part: where it lies, its room, its bytes -/
structure PtV where
  a : Addr
  c : Nat
  l : List UInt8
def PtV.cell (v : PtV) : Value := .slice (some v.a) v.l.length v.c
def ptC (L : List PtV) : List Value := L.map PtV.cell
theorem ptC_len (L : List PtV) : (ptC L).length = L.length := by simp [ptC]
/-- a row of parts of one's own, each with bytes that lie apart from it -/
structure OwnPts (w : World) (base : Nat) (r : Value) (L : List PtV) : Prop where
  row : w.ownsRow base 22 1 r L.length (ptC L)
  bytes : ∀ v ∈ L, IsBytes w (some v.a) v.l.length v.c v.l
  some' : ∀ v ∈ L, 0 < v.l.length
  apart : ∀ v ∈ L, r.ownBlock ≠ some v.a.block
  fresh : ∀ v ∈ L, base ≤ v.a.block
theorem OwnPts.kept {w w' : World} {base : Nat} {r : Value} {L : List PtV} (h : OwnPts w base r L) (hb : Below w.heap.size w w') : OwnPts w' base r L :=
  ⟨ownsRow_below h.row hb, fun v hv => isBytes_below (h.bytes v hv) hb, h.some', h.apart, h.fresh⟩
theorem OwnPts.lt {w : World} {base : Nat} {r : Value} {L : List PtV} (h : OwnPts w base r L) : ∀ x, r.ownBlock = some x → base ≤ x ∧ x < w.heap.size := h.row.lt
theorem isBytes_lt {w : World} {x : Addr} {len cap : Nat} {l : List UInt8} (h : IsBytes w (some x) len cap l) (h0 : 0 < len) : x.block < w.heap.size := by
  have hblk : (x.add 0).block = x.block := by unfold Addr.add; split <;> rfl
  rw [← hblk]
  exact blk_lt (h.2.2.2.2 x rfl 0 h0)
/-- the first one -/
theorem OwnPts.one {w : World} {base : Nat} {v : PtV} (hb : base ≤ w.heap.size) (hv : IsBytes w (some v.a) v.l.length v.c v.l) (h0 : 0 < v.l.length) (hf : base ≤ v.a.block) :
    OwnPts (w.alloc (.cells #[v.cell] 22)) base (.slice (some ⟨w.heap.size, 0, none⟩) 1 1) [v] := by
  have hlt := isBytes_lt hv h0
  refine ⟨⟨rfl, .inr ⟨w.heap.size, 1, #[v.cell], rfl, hb, heap_alloc_new w _, Nat.le_refl _, by unfold maxLen; omega, rfl, rfl⟩⟩, ?_, ?_, ?_, ?_⟩
  · intro u hu
    rw [List.mem_singleton] at hu
    subst hu
    exact isBytes_below hv (awG _ _)
  · intro u hu
    rw [List.mem_singleton] at hu
    subst hu
    exact h0
  · intro u hu
    rw [List.mem_singleton] at hu
    subst hu
    intro e
    have e' := Option.some.inj e
    simp at e'
    omega
  · intro u hu
    rw [List.mem_singleton] at hu
    subst hu
    exact hf
/-- one more -/
theorem OwnPts.add {w w' : World} {base : Nat} {r r' : Value} {L : List PtV} {v : PtV} (h : OwnPts w base r L) (hv : IsBytes w (some v.a) v.l.length v.c v.l) (h0 : 0 < v.l.length)
    (hva : r.ownBlock ≠ some v.a.block) (hvf : base ≤ v.a.block) (hrow : w'.ownsRow base 22 1 r' (L.length + 1) (ptC L ++ [v.cell])) (hg : w.grownBy w' r.ownBlock) (hb : r'.ownBlock = r.ownBlock ∨ r'.ownBlock = some w.heap.size) : OwnPts w' base r' (L ++ [v]) := by
  have hall : ∀ u ∈ L ++ [v], IsBytes w (some u.a) u.l.length u.c u.l ∧ 0 < u.l.length ∧ r.ownBlock ≠ some u.a.block := by
    intro u hu
    rcases List.mem_append.1 hu with hu | hu
    · exact ⟨h.bytes u hu, h.some' u hu, h.apart u hu⟩
    · rw [List.mem_singleton] at hu; subst hu; exact ⟨hv, h0, hva⟩
  refine ⟨?_, fun u hu => isBytes_grownP (hall u hu).1 hg (hall u hu).2.2, fun u hu => (hall u hu).2.1, ?_, ?_⟩
  · have e : ptC (L ++ [v]) = ptC L ++ [v.cell] := by unfold ptC; simp
    rw [e, List.length_append]; exact hrow
  · intro u hu
    rcases hb with hb | hb
    · rw [hb]; exact (hall u hu).2.2
    · rw [hb]
      intro e
      have e' := Option.some.inj e
      have := isBytes_lt (hall u hu).1 (hall u hu).2.1
      omega
  · intro u hu
    rcases List.mem_append.1 hu with hu | hu
    · exact h.fresh u hu
    · rw [List.mem_singleton] at hu; subst hu; exact hvf
/-- a row of parts that is read -/
structure IsPts (w : World) (a : Option Addr) (len cap : Nat) (L : List (List UInt8)) : Prop where
  lens : L.length = len
  caps : len ≤ cap
  room : cap ≤ maxLen
  some' : ∃ x, a = some x ∧ ∀ i (h : i < L.length), ∃ y c, w.cell? (x.add i) = some (.slice (some y) L[i].length c) ∧ IsBytes w (some y) L[i].length c L[i] ∧ 0 < L[i].length
theorem IsPts.kept {w w' : World} {a : Option Addr} {len cap : Nat} {L : List (List UInt8)} (h : IsPts w a len cap L) (hb : Below w.heap.size w w') : IsPts w' a len cap L := by
  obtain ⟨h1, h2, h3, x, hx, h4⟩ := h
  refine ⟨h1, h2, h3, x, hx, fun i hi => ?_⟩
  obtain ⟨y, c, h5, h6, h7⟩ := h4 i hi
  exact ⟨y, c, cell_kept hb h5, isBytes_below h6 hb, h7⟩
theorem OwnPts.pts {w : World} {base : Nat} {r : Value} {L : List PtV} (h : OwnPts w base r L) (h0 : 0 < L.length) : ∃ g cap, r = .slice (some ⟨g, 0, none⟩) L.length cap ∧ base ≤ g ∧ IsPts w (some ⟨g, 0, none⟩) L.length cap (L.map (·.l)) := by
  have hr := h.row
  rcases h.row.2 with ⟨h1, h2⟩ | ⟨g, cap, cur, h1, hg, hh, hc, hm, hsz, htk⟩
  · omega
  · refine ⟨g, cap, h1, hg, by simp, hc, hm, _, rfl, fun i hi => ?_⟩
    have hi' : i < L.length := by simpa using hi
    refine ⟨L[i].a, L[i].c, ?_, ?_, ?_⟩
    · have := hr.cells (by rw [h1]; rfl) i (L[i].cell) (by unfold ptC; simp [hi'])
      rw [this]
      simp [PtV.cell]
    · have := h.bytes L[i] (List.getElem_mem hi')
      simpa using this
    · have := h.some' L[i] (List.getElem_mem hi')
      simpa using this
/-- a row of parts that is read, and all of it from block B on -/
def PtsF (w : World) (gx : Addr) (n : Nat) (L : List (List UInt8)) (B : Nat) : Prop :=
  B ≤ gx.block ∧ ∀ k, k < n → ∃ y d z, w.cell? (gx.add k) = some (.slice (some y) z d) ∧ IsBytes w (some y) z d (L.getD k []) ∧ B ≤ y.block
theorem PtsF.kept {w w' : World} {gx : Addr} {n : Nat} {L : List (List UInt8)} {B : Nat} (h : PtsF w gx n L B) (hb : Below w.heap.size w w') : PtsF w' gx n L B := by
  refine ⟨h.1, fun k hk => ?_⟩
  obtain ⟨y, d, z, h1, h2, h3⟩ := h.2 k hk
  exact ⟨y, d, z, cell_kept hb h1, isBytes_below h2 hb, h3⟩
theorem OwnPts.ptsF {w : World} {base : Nat} {r : Value} {L : List PtV} (h : OwnPts w base r L) {g cap : Nat} (hr : r = .slice (some ⟨g, 0, none⟩) L.length cap) (hg : base ≤ g) : PtsF w ⟨g, 0, none⟩ L.length (L.map (·.l)) base := by
  refine ⟨hg, fun k hk => ⟨L[k].a, L[k].c, L[k].l.length, ?_, ?_, h.fresh _ (List.getElem_mem hk)⟩⟩
  · exact h.row.cells (by rw [hr]; rfl) k (L[k].cell) (by unfold ptC; simp [hk])
  · have e : (L.map (·.l)).getD k [] = L[k].l := by simp [List.getD, hk]
    rw [e]
    exact h.bytes _ (List.getElem_mem hk)
end Bw
end Go.Proofs.Ytgjnfmbmndnihaa
