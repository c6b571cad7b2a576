/- What bits.Turned answers of any text: each bit made the other one, and else which error. -/
import Derived.Test.YtkfgcedbdfjofabDoorBase8
import Derived.Test.YtkfgcedbdfjofabDoorShelfMap
namespace Go.Proofs.YtkfgcedbdfjofabDoor
open Go.ChangeShapes Go.WideShapes Go.ChangeAt Go.RowKit
namespace Bw
open Bm

def oth (c : UInt8) : UInt8 := if c = 48 then 49 else 48
def othZ (x : Int) : Int := if x = 48 then 49 else 48

set_option maxHeartbeats 400000 in
theorem other_any (r : Int) (w : World) :
    Calls Tryd.prog 12 #[.int .i32 r] w fun e w' => e = .returned (.int .i32 (othZ r)) ∧ w' = w := by
  unfold othZ
  by_cases h : r = 48
  · subst h
    rw [if_pos rfl]
    go_enter Tryd.func12, Tryd.ntmps12
    go_wp2; go_ret; exact ⟨rfl, rfl⟩
  · rw [if_neg h]
    have h' : (r == 48) = false := by simpa using h
    go_enter Tryd.func12, Tryd.ntmps12
    go_wp2; go_ret; exact ⟨rfl, rfl⟩

theorem mapAt (w : World) : MapAtRunes Tryd.prog 12 #[] othZ w := fun W x _ _ =>
  (other_any (x : Int) W).mono fun _ _ ⟨he, hw⟩ => ⟨he, 0, hw⟩

theorem othZ_bd (x : Nat) : 0 ≤ othZ x ∧ othZ x ≤ 2147483647 := by unfold othZ; split <;> omega

theorem decodeL_asc (c : UInt8) (l : List UInt8) (h : c.toNat < 128) : Lib.decodeL (c :: l) = (c.toNat, 1) := by
  have hp : 0 < (ByteArray.mk (c :: l).toArray).size := by show 0 < (c :: l).toArray.size; simp
  exact decode_ascii ⟨(c :: l).toArray⟩ 0 hp h

theorem map_row (l : List UInt8) (h : rowB l = true) : Lib.mapD othZ l = l.map oth := by
  induction l with
  | nil => rfl
  | cons c l ih =>
    have h' : bit c = true ∧ rowB l = true := by simpa [rowB] using h
    have hc := (bit_iff c).1 h'.1
    have hd : Lib.decodeL (c :: l) = (c.toNat, 1) := decodeL_asc c l (by omega)
    rw [Lib.mapD_step othZ (c :: l) (by simp), hd]
    simp only [List.drop_succ_cons, List.drop_zero]
    rw [ih h'.2, if_pos (othZ_bd c.toNat).1, List.map_cons]
    have e : Lib.encodeRune (othZ (c.toNat : Int)) = [oth c] := by
      rcases hc with hc | hc
      · have : c = 48 := UInt8.toNat_inj.1 (by show c.toNat = 48; omega)
        subst this; rfl
      · have : c = 49 := UInt8.toNat_inj.1 (by show c.toNat = 49; omega)
        subst this; rfl
    rw [e]; rfl

set_option maxHeartbeats 1000000 in
theorem turned_bad (s : ByteArray) (w : World) (hs : s.size ≤ maxLen) (hc : checkE s.data.toList ≠ 0) :
    Calls Tryd.prog 6 #[.string s] w fun e w' => e = .returned (.tuple #[.string ⟨#[]⟩, .int .i64 (checkE s.data.toList)]) ∧ Below w.heap.size w w' := by
  have HS : Hid (s.size ≤ maxLen) := hs
  have hc' : (checkE s.data.toList == 0) = false := by simpa using hc
  clear hs
  go_enter Tryd.func6, Tryd.ntmps6
  go_wp2_with fail
  refine (check_any s w HS.out).mono ?_
  rintro e w1 ⟨rfl, hb1⟩
  go_wp2_with fail
  go_ret2
  exact ⟨rfl, hb1⟩

theorem tabs_below {g1 g2 : Nat} {w w' : World} (hT : Lib.Utf8Tabs g1 g2 w) (hb : Below w.heap.size w w') : Lib.Utf8Tabs g1 g2 w' :=
  ⟨fun c hc => cell_kept hb (hT.1 c hc), fun i hi => ⟨cell_kept hb (hT.2 i hi).1, cell_kept hb (hT.2 i hi).2⟩⟩

set_option maxHeartbeats 1000000 in
theorem turned_ok (s : ByteArray) (w : World) (hc : checkE s.data.toList = 0) (hT : Lib.Utf8Tabs 0 1 w) :
    Calls Tryd.prog 6 #[.string s] w fun e w' => e = .returned (.tuple #[.string ⟨(s.data.toList.map oth).toArray⟩, .int .i64 0]) ∧ Below w.heap.size w w' := by
  obtain ⟨h1000, hrow⟩ := small_of_check hc
  have hck := fun W => check_any s W (by unfold maxLen; omega)
  rw [hc] at hck
  have hmap := fun W hW => Tryd.strings_Map_runes 12 #[] (enters_of Tryd.func12 (by kernel_rfl) rfl) othZ s W (by omega) (mapAt W) (fun x _ => othZ_bd x) hW
  rw [map_row _ hrow] at hmap
  have HM := Hid.mk hmap
  have HT := Hid.mk hT
  clear hc hmap hrow hT
  go_enter Tryd.func6, Tryd.ntmps6
  go_wp2_with fail
  refine (hck w).mono ?_
  rintro e w1 ⟨rfl, hb1⟩
  clear hck
  go_wp2_with fail
  refine (HM.out _ (tabs_below HT.out hb1)).mono ?_
  rintro e w2 ⟨rfl, hb2⟩
  go_wp2_with fail
  go_ret2
  exact ⟨rfl, hb1.trans (hb2.mono hb1.size)⟩
end Bw
end Go.Proofs.YtkfgcedbdfjofabDoor
