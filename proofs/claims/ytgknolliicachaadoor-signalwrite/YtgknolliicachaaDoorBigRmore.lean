/- omnibusbig's fractions: a new variable, SetInt64, Num, Denom. -/
import Derived.Test.YtgknolliicachaaDoorBigFrac64
import Derived.Test.YtgknolliicachaaDoorBigArith
namespace Go.Proofs.YtgknolliicachaaDoor
open Go.ChangeShapes Go.WideShapes Go.ChangeAt Go.RowKit Go.Sort
namespace Ww
open Wm Sm
open Bw (Tch bl2 cell_kept)
def rzC : List Value := [.bool false, .slice none 0 0, .bool false, .slice none 0 0]
theorem rz_new (w : World) : BlkAt (w.alloc (.cells #[.bool false, .slice none 0 0, .bool false, .slice none 0 0] 70)) w.heap.size rzC 70 := heap_alloc_new w _
theorem rz_rat : RatV rzC := ⟨_, _, _, _, _, _, _, _, rfl⟩
theorem rzB (w : World) : Below w.heap.size w (w.alloc (.cells #[.bool false, .slice none 0 0, .bool false, .slice none 0 0] 70)) := (Below.refl _ _).alloc (Nat.le_refl _) _
theorem RatAt.lt {w : World} {g : Nat} {a b : Int} (h : RatAt w g a b) : g < w.heap.size := by
  obtain ⟨_, _, _, _, hB, _⟩ := h
  exact hB.lt
theorem low_one (p : Int) : numL p 1 = p ∧ denL p 1 = 1 := low_of_cop (by simp)
set_option maxHeartbeats 8000000 in
set_option maxRecDepth 100000 in
theorem rset_z (g : Nat) (cs : List Value) (p : Int) (w : World) (hB : BlkAt w g cs 70) (hV : RatV cs) (hp1 : -4611686018427387903 ≤ p) (hp2 : p ≤ 4611686018427387903) :
    Calls Tryd.prog 41 #[.pointer (some ⟨g, 0, none⟩), .int .i64 p] w fun e w' => e = .returned (.pointer (some ⟨g, 0, none⟩)) ∧ RatAt w' g p 1 ∧ Tch [g] w w' := by
  have HN1 := Hid.mk (newInt_z p w hp1 hp2)
  have HN2 := Hid.mk (fun W => newInt_z 1 W (by omega) (by omega))
  have hS := (fun ga gb W h1 h2 h3 => setFrac_pos g cs ga 0 gb 0 p 1 W h1 hV h2 h3 (by omega) hp1 hp2 (by omega))
  simp only [(low_one p).1, (low_one p).2] at hS
  have HS := Hid.mk hS
  have HB := Hid.mk hB
  clear hB hV hp1 hp2 hS
  go_enter Tryd.func41, Tryd.ntmps41
  go_wp2_with fail
  with_reducible refine HN1.out.mono ?_
  rintro e w1 ⟨rfl, hz1, -, hb1⟩
  have HZ1 := Hid.mk hz1
  have HB1 := Hid.mk hb1
  clear hz1 hb1
  go_wp2_with fail
  with_reducible refine (HN2.out _).mono ?_
  rintro e w2 ⟨rfl, hz2, -, hb2⟩
  have HC := Hid.mk (HS.out w.heap.size w1.heap.size w2 (HB.out.kept (bl2 HB1.out hb2)) (HZ1.out.kept hb2) hz2)
  have HB2 := Hid.mk (bl2 HB1.out hb2)
  clear hz2 hb2 HS
  go_wp2_with fail
  with_reducible refine HC.out.mono ?_
  rintro e w3 ⟨rfl, hR, ht⟩
  have HR := Hid.mk hR
  have HT := Hid.mk ((Tch.of HB2.out).trans ht)
  clear hR ht
  go_wp2_with fail
  go_ret
  exact ⟨rfl, HR.out, HT.out⟩
set_option maxHeartbeats 4000000 in
theorem rnum_z (g : Nat) (w : World) :
    Calls Tryd.prog 42 #[.pointer (some ⟨g, 0, none⟩)] w fun e w' => e = .returned (.pointer (some ⟨g, 0, none⟩)) ∧ w' = w := by
  go_enter Tryd.func42, Tryd.ntmps42
  go_wp2
  go_ret
  exact ⟨rfl, rfl⟩
set_option maxHeartbeats 8000000 in
set_option maxRecDepth 100000 in
theorem rdenom_z (g : Nat) (a b : Int) (w : World) (h : RatAt w g a b) (hb : 0 < b) (hb2 : b ≤ 4611686018427387903) :
    Calls Tryd.prog 44 #[.pointer (some ⟨g, 0, none⟩)] w fun e w' => e = .returned (.pointer (some ⟨w.heap.size, 0, none⟩)) ∧ ZAt w' w.heap.size 0 b ∧ Below w.heap.size w w' := by
  have hZ := zvB w
  have hl := h.lt
  have HD := Hid.mk (den_z g a b _ (h.kept hZ) (by omega))
  have HS := Hid.mk (set_z w.heap.size zvC _ g 2 b _ (h.kept hZ).den (zv_new w) zv_int (by omega) (by omega) hb2)
  have HZ := Hid.mk hZ
  clear h hb hb2 hZ hl
  go_enter Tryd.func44, Tryd.ntmps44
  go_wp2_with fail
  with_reducible refine HD.out.mono ?_
  rintro e w1 ⟨rfl, hw1⟩
  obtain rfl := hw1.symm
  go_wp2_with fail
  with_reducible refine HS.out.mono ?_
  rintro e w2 ⟨rfl, hO⟩
  have HO := Hid.mk hO
  clear hO
  go_wp2_with fail
  go_ret
  exact ⟨rfl, (HO.out.int zv_int).1, HO.out.below HZ.out (Nat.le_refl _)⟩
end Ww
end Go.Proofs.YtgknolliicachaaDoor
