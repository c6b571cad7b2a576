/- What the reader's method readData does. -/
import Derived.Test.YtnhnemmddgofnaaDoorC6
import Derived.Test.YtnhnemmddgofnaaDoorC7
import Derived.Test.YtnhnemmddgofnaaDoorC2
import Derived.Test.YtnhnemmddgofnaaDoorC9
import Derived.Test.YtnhnemmddgofnaaDoorC3
namespace Go.Proofs.YtnhnemmddgofnaaDoor
open Go.ChangeShapes Go.WideShapes Go.ChangeAt Go.RowKit
namespace Bw
open Bm Cm Go.Sort
theorem RulesAt.tch {w w' : World} {g : Nat} (h : RulesAt w) (ht : Tch [g] w w') (hg : 0 ≠ g) : RulesAt w' := by
  have key : ∀ j v, w.cell? ⟨0, j, none⟩ = some v → w'.cell? ⟨0, j, none⟩ = some v := by
    intro j v hv
    have hlt : 0 < w.heap.size := block_lt_of_cell hv
    unfold World.cell? at hv ⊢
    rw [ht.block _ hlt (by simpa using hg)]
    exact hv
  intro k hk
  obtain ⟨h1, h2, h3, h4⟩ := h k hk
  exact ⟨key _ _ h1, key _ _ h2, key _ _ h3, key _ _ h4⟩

theorem str_is {T : ByteArray} {t c : List UInt8} (hT : T.data.toList = t) : (T.toList == c) = decide (t = c) := by
  rw [ByteArray.toList_eq, hT, Bool.eq_iff_iff, beq_iff_eq, decide_eq_true_iff]
end Bw
end Go.Proofs.YtnhnemmddgofnaaDoor
namespace Go.Proofs.YtnhnemmddgofnaaDoor
open Go.ChangeShapes Go.WideShapes Go.ChangeAt Go.RowKit
namespace Bw
open Bm Cm Go.Sort

theorem isBytes_ownP {w : World} {base : Nat} {v : Value} {n : Nat} {l : List UInt8} (h : w.ownsRow base 5 1 v n (cellsOf l)) :
    ∃ a cap, v = .slice a n cap ∧ IsBytes w a n cap l ∧ ∀ x, a = some x → base ≤ x.block := by
  have h0 := h
  obtain ⟨hl, h2⟩ := h
  have hn : l.length = n := by simpa [cellsOf] using hl
  rcases h2 with ⟨rfl, h1⟩ | ⟨g, cap, cur, rfl, hg, hh, hc, hm, hsz, htk⟩
  · subst h1; exact ⟨none, 0, rfl, ⟨hn, Nat.le_refl _, Nat.zero_le _, (fun _ => rfl), (fun x hx => by cases hx)⟩, fun x hx => by cases hx⟩
  · refine ⟨some ⟨g, 0, none⟩, cap, rfl, ⟨hn, hc, hm, (fun h => by cases h), fun x hx i hi => ?_⟩, fun x hx => by cases hx; exact hg⟩
    cases hx
    exact h0.cells rfl i _ (by simp [cellsOf, hn, hi])
/-- what lies in a reader's field Data, apart from the reader -/
def DataAt (w : World) (g : Nat) (d : Value) (l : List UInt8) : Prop := ∃ a len cap, d = .slice a len cap ∧ IsBytes w a len cap l ∧ ∀ x, a = some x → g < x.block
theorem DataAt.tch {w w' : World} {g : Nat} {d : Value} {l : List UInt8} (h : DataAt w g d l) (ht : Tch [g] w w') : DataAt w' g d l := by
  obtain ⟨a, len, cap, hd, hb, hg⟩ := h
  refine ⟨a, len, cap, hd, ⟨hb.1, hb.2.1, hb.2.2.1, hb.2.2.2.1, fun x hx i hi => ?_⟩, hg⟩
  have hv := hb.2.2.2.2 x hx i hi
  have hlt := block_lt_of_cell hv
  have hblk : (x.add i).block = x.block := by unfold Addr.add; split <;> rfl
  have hne : (x.add i).block ∉ [g] := by rw [hblk]; have := hg x hx; simp; omega
  unfold World.cell? at hv ⊢
  rw [ht.block _ hlt hne]
  exact hv
theorem SizesAt.tch {w w' : World} {g : Nat} (h : SizesAt w) (ht : Tch [g] w w') (hg : 1 ≠ g) : SizesAt w' := by
  intro i hi
  have hv := h i hi
  have hlt : 1 < w.heap.size := block_lt_of_cell hv
  unfold World.cell? at hv ⊢
  rw [ht.block _ hlt (by simpa using hg)]
  exact hv
theorem sizes_nat (k : Nat) (h : k < 16) : sizesI.getD k 0 = ((sizesL.getD k 0 : Nat) : Int) ∧ sizesL.getD k 0 ≤ 64 := by
  have : ∀ m : Fin 16, sizesI.getD m.val 0 = ((sizesL.getD m.val 0 : Nat) : Int) ∧ sizesL.getD m.val 0 ≤ 64 := by decide +kernel
  exact this ⟨k, h⟩
theorem topD_I (fa : Bool) : topDI fa = (topD fa : Int) := by cases fa <;> rfl
theorem take_eight (b : List UInt8) (S : RS) (D : Nat) : ∃ m, (takeP b S (8 * D)).1.length = 8 * m ∧ m ≤ D := by
  rcases takeP_len b S (8 * D) with h | h
  · exact ⟨D, h, Nat.le_refl _⟩
  · exact ⟨0, by rw [h]; rfl, Nat.zero_le _⟩

end Bw
end Go.Proofs.YtnhnemmddgofnaaDoor
