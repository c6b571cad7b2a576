/- What package health is to answer, as premises; counters that are held against one another; the closed fact of its laws. -/
import Derived.Test.YtemjjkjceeljbaaDoorRefHealth
import Derived.Test.YtemjjkjceeljbaaDoorRepeatN
namespace Go.Proofs.YtemjjkjceeljbaaDoor
open Go.ChangeShapes Go.WideShapes Go.ChangeAt Go.RowKit
namespace Bw
/-- what a happening adds to the counters: the program's own table, as it lies -/
def chgL : List Int := [0, 0, -1, 0, 0, -1, 8, 0, 0, 1, 0, 8, 0, 0]
def ChgAt (w : World) : Prop := ∀ j, j < 14 → w.cell? ⟨0, j, none⟩ = some (.int .i64 (chgL.getD j 0))
theorem ChgAt.kept {w w' : World} (h : ChgAt w) (hb : Below w.heap.size w w') : ChgAt w' := fun j hj => cell_kept hb (h j hj)
/-- numbers that came in, the table beside -/
def NumsH (w : World) (a : Option Addr) (n : Nat) (zs : List Int) : Prop := zs.length = n ∧ (a = none → n = 0) ∧ (∀ x, a = some x → ∀ i, i < n → w.cell? (x.add i) = some (.int .i64 (zs.getD i 0))) ∧ ChgAt w
theorem NumsH.kept {w w' : World} {a : Option Addr} {n : Nat} {zs : List Int} (h : NumsH w a n zs) (hb : Below w.heap.size w w') : NumsH w' a n zs := ⟨h.1, h.2.1, fun x hx i hi => cell_kept hb (h.2.2.1 x hx i hi), h.2.2.2.kept hb⟩
def StepIs : Prop := ∀ (h : Hl) (a : Option Addr) (n c : Nat) (zs : List Int) (w : World), NumsH w a n zs →
    Calls Tryd.prog 6 #[hV h, .slice a n c] w fun e w' => e = .returned (.tuple #[hV (stepO h zs), .int .i64 (stepA h zs), .int .i64 (stepE h zs)]) ∧ Below w.heap.size w w'
def StateIs : Prop := ∀ (h : Hl) (w : World),
    Calls Tryd.prog 7 #[hV h] w fun e w' => e = .returned (.tuple #[.int .i64 (if okB h = true then stateH h else 0), .int .i64 (chkH h)]) ∧ Below w.heap.size w w'
def CheckIs : Prop := ∀ (h : Hl) (w : World),
    Calls Tryd.prog 10 #[hV h] w fun e w' => e = .returned (.int .i64 (chkH h)) ∧ Below w.heap.size w w'
theorem nums_rep {w : World} {g n : Nat} {v : Int} (h : w.heap[g]? = some (.cells (List.replicate n (Value.int .i64 v)).toArray 3 (0, 0))) (hC : ChgAt w) : NumsH w (some ⟨g, 0, none⟩) n (List.replicate n v) := by
  refine ⟨by simp, (fun h => by cases h), fun x hx i hi => ?_, hC⟩
  cases hx
  have e : (Addr.add ⟨g, 0, none⟩ i) = ⟨g, i, none⟩ := by simp [Addr.add]; exact fun h => h.symm
  rw [e, cell_of_row w g i _ _ _ h, List.getElem?_toArray, List.getElem?_replicate, if_pos hi]
  simp [List.getD, hi]
theorem hl_of {h : Hl} (h1 : h.s = 256) (h2 : h.g = 0) (h3 : h.r = 0) : h = ⟨256, 0, 0⟩ := by
  obtain ⟨s, g, r⟩ := h
  simp only at h1 h2 h3
  rw [h1, h2, h3]
theorem off_run : stepO zeroH (List.replicate 32 3) = ⟨256, 0, 0⟩ ∧ stepA zeroH (List.replicate 32 3) = 0 ∧ stepE zeroH (List.replicate 32 3) = 0 :=
  ⟨hl_of (by decide +kernel) (by decide +kernel) (by decide +kernel), by decide +kernel, by decide +kernel⟩
set_option maxHeartbeats 4000000 in
set_option maxRecDepth 100000 in
theorem well_any (hSt : StepIs) (hTe : StateIs) (w : World) (hC : ChgAt w) :
    Calls Tryd.prog 9 #[] w fun e w' => e = .returned (.bool true) ∧ Below w.heap.size w w' := by
  have hB0 : Below w.heap.size w (w.alloc (.cells #[.int .i64 3] 3)) := (Below.refl _ _).alloc (Nat.le_refl _) _
  have a1 := repeatN_any 3 w.heap.size 32 (w.alloc (.cells #[.int .i64 3] 3)) (by omega) (by omega) (cell_of_row _ _ 0 _ _ _ (heap_alloc_new w _))
  have a2 := fun W g hW (hb : Below w.heap.size w W) => hSt zeroH (some ⟨g, 0, none⟩) 32 32 (List.replicate 32 3) W (nums_rep hW (hC.kept hb))
  rw [off_run.1, off_run.2.1, off_run.2.2] at a2
  have a3 := fun W => hTe ⟨256, 0, 0⟩ W
  have e1 : (if okB ⟨256, 0, 0⟩ = true then stateH ⟨256, 0, 0⟩ else 0) = 2 := by decide
  have e2 : chkH ⟨256, 0, 0⟩ = 0 := by decide
  rw [e1, e2] at a3
  unfold hV zeroH at a2
  unfold hV at a3
  have HB0 := Hid.mk hB0
  have HA1 := Hid.mk a1
  have HA2 := Hid.mk a2
  have HA3 := Hid.mk a3
  clear hB0 a1 a2 a3 e1 e2 hSt hTe hC
  go_enter Tryd.func9, Tryd.ntmps9
  go_wp2_with fail
  refine HA1.out.mono ?_
  rintro e w1 ⟨g, rfl, hh, -, hb1⟩
  have HH := Hid.mk hh
  have HB1 := Hid.mk (bl2 HB0.out hb1)
  clear hh hb1
  go_wp2_with fail
  refine (HA2.out _ _ HH.out HB1.out).mono ?_
  rintro e w2 ⟨rfl, hb2⟩
  have HB2 := Hid.mk (bl2 (bl2 HB1.out hb2) (hbox w2 ⟨256, 0, 0⟩))
  obtain ⟨k0, k1, k2⟩ := HAt.box w2 ⟨256, 0, 0⟩
  have HK := Hid.mk (HAt.box w2 ⟨256, 0, 0⟩)
  unfold hC at HB2 k0 k1 k2 HK
  simp only at k0 k1 k2
  clear hb2
  go_wp2_with fail
  refine (HA3.out _).mono ?_
  rintro e w3 ⟨rfl, hb3⟩
  have HB3 := Hid.mk (bl2 HB2.out hb3)
  obtain ⟨j0, j1, j2⟩ := HK.out.kept hb3
  simp only at j0 j1 j2
  clear hb3 k0 k1 k2
  go_wp2_with fail
  go_ret
  exact ⟨rfl, HB3.out⟩
end Bw
end Go.Proofs.YtemjjkjceeljbaaDoor
