/- What the document's own IsName answers. -/
import Derived.Test.YtlnkhlifkooohaaGreatDoorSgSmall
import Derived.Test.YtlnkhlifkooohaaGreatDoorShelfTrim
namespace Go.Proofs.YtlnkhlifkooohaaGreatDoor
open Go.ChangeShapes Go.WideShapes Go.ChangeAt Go.RowKit Go.Shelf
namespace Bw
open Sm
def csL : List UInt8 := [97, 98, 99, 100, 101, 102, 103, 104, 105, 106, 107, 108, 109, 110, 111, 112, 113, 114, 115, 116, 117, 118, 119, 120, 121, 122, 65, 66, 67, 68, 69, 70, 71, 72, 73, 74, 75, 76, 77, 78, 79, 80, 81, 82, 83, 84, 85, 86, 87, 88, 89, 90, 48, 49, 50, 51, 52, 53, 54, 55, 56, 57]
theorem cs_all : ((List.range 256).all fun n => csL.contains (UInt8.ofNat n) == alnumN n) = true := by kernel_rfl
theorem cs_alnum (c : UInt8) : csL.contains c = alnumN c.toNat := by
  have := eq_of_beq (List.all_eq_true.1 cs_all c.toNat (List.mem_range.2 (UInt8.toNat_lt c)))
  rwa [UInt8.ofNat_toNat] at this
theorem drop_all {p : UInt8 → Bool} : ∀ {l : List UInt8}, (∀ x ∈ l, p x = true) → l.dropWhile p = []
  | [], _ => rfl
  | x :: l, h => by
    rw [List.dropWhile_cons, if_pos (h x (List.mem_cons_self ..))]
    exact drop_all (fun y hy => h y (List.mem_cons_of_mem _ hy))
theorem drop_some {p : UInt8 → Bool} : ∀ {l : List UInt8} {x : UInt8}, x ∈ l → p x = false → ∃ y t, l.dropWhile p = y :: t ∧ p y = false
  | z :: l, x, hx, h => by
    rw [List.dropWhile_cons]
    split
    · rename_i hz
      rcases List.mem_cons.1 hx with rfl | hx
      · rw [h] at hz; cases hz
      · exact drop_some hx h
    · rename_i hz
      exact ⟨z, l, rfl, by simpa using hz⟩
theorem trim_none {l cs : List UInt8} (h : ∀ x ∈ l, cs.contains x = true) : Lib.trimS l cs = [] := by
  unfold Lib.trimS Lib.trimRightS
  rw [drop_all (fun x hx => h x (List.mem_reverse.1 hx))]
  rfl
theorem trim_some {l cs : List UInt8} {x : UInt8} (hx : x ∈ l) (h : cs.contains x = false) : Lib.trimS l cs ≠ [] := by
  obtain ⟨y, t, e, hy⟩ := drop_some (p := fun b => cs.contains b) (List.mem_reverse.2 hx) h
  unfold Lib.trimS Lib.trimRightS Lib.trimLeftS
  rw [e]
  obtain ⟨z, t', e', _⟩ := drop_some (p := fun b => cs.contains b) (l := (y :: t).reverse) (x := y) (List.mem_reverse.2 (List.mem_cons_self ..)) hy
  rw [e']
  simp
theorem trim_name {l : List UInt8} (h1 : 1 ≤ l.length) (h2 : l.length ≤ 16) (h3 : digitN (l.getD 0 0).toNat = false) : (Lib.trimS l csL = [] ∧ nameB l = true) ∨ (Lib.trimS l csL ≠ [] ∧ nameB l = false) := by
  by_cases h : ∃ k, k < l.length ∧ alnumN (l.getD k 0).toNat = false
  · obtain ⟨k, hk, he⟩ := h
    refine .inr ⟨trim_some (x := l.getD k 0) ?_ (by rw [cs_alnum]; exact he), name_hit hk he⟩
    simp only [List.getD, List.getElem?_eq_getElem hk, Option.getD_some]
    exact List.getElem_mem _
  · have ha : ∀ k, k < l.length → alnumN (l.getD k 0).toNat = true := fun k hk => by
      cases e : alnumN (l.getD k 0).toNat with
      | true => rfl
      | false => exact absurd ⟨k, hk, e⟩ h
    refine .inl ⟨trim_none (fun x hx => ?_), name_all h1 h2 ?_ ha⟩
    · obtain ⟨k, hk, rfl⟩ := List.getElem_of_mem hx
      rw [cs_alnum]
      have := ha k hk
      simpa only [List.getD, List.getElem?_eq_getElem hk, Option.getD_some] using this
    · have := ha 0 h1
      unfold alnumN at this
      rw [h3, Bool.or_false] at this
      exact this
theorem ascii_cs : ∀ (j : Nat) b, (ByteArray.mk #[97, 98, 99, 100, 101, 102, 103, 104, 105, 106, 107, 108, 109, 110, 111, 112, 113, 114, 115, 116, 117, 118, 119, 120, 121, 122, 65, 66, 67, 68, 69, 70, 71, 72, 73, 74, 75, 76, 77, 78, 79, 80, 81, 82, 83, 84, 85, 86, 87, 88, 89, 90, 48, 49, 50, 51, 52, 53, 54, 55, 56, 57]).data.toList[j]? = some b → b.toNat < 128 := ascii_of_all (by decide)
set_option maxHeartbeats 2000000 in
set_option maxRecDepth 100000 in
theorem isName_any (s : ByteArray) (w : World) (hs : s.size ≤ 9223372036854775807) :
    Calls Tryz.prog 32 #[.string s] w fun e w' => e = .returned (.bool (nameB s.data.toList)) ∧ Below w.heap.size w w' := by
  have hl := sz_len s
  by_cases h0 : s.size = 0
  · have he : s = ⟨#[]⟩ := by
      cases s with
      | mk d => have : d.size = 0 := h0; rw [Array.eq_empty_of_size_eq_zero this]
    subst he
    clear hl h0 hs
    go_enter Tryz.func32, Tryz.ntmps32
    go_wp2_with fail
    go_ret
    exact ⟨rfl, Below.refl _ _⟩
  have hne3 : (s.toList == []) = false := by
    rw [beq_eq_false_iff_ne, ByteArray.toList_eq]
    intro e
    have := congrArg List.length e
    rw [Array.length_toList] at this
    exact h0 this
  by_cases h1 : 16 < s.size
  · rw [name_long (by omega)]
    have a0 : (16 : Int) < (s.size : Int) := by omega
    clear hl h1 hs h0
    go_enter Tryz.func32, Tryz.ntmps32
    go_wp2_with fail
    go_ret
    exact ⟨rfl, Below.refl _ _⟩
  have hpos : 0 < s.size := by omega
  have hat : (s[0]'hpos).toNat = (s.data.toList.getD 0 0).toNat := by rw [sat_getD s 0 hpos]
  have hdg : digitN (s.data.toList.getD 0 0).toNat = decide (48 ≤ (s.data.toList.getD 0 0).toNat ∧ (s.data.toList.getD 0 0).toNat ≤ 57) := rfl
  have hc256 : (s.data.toList.getD 0 0).toNat < 256 := UInt8.toNat_lt _
  have hlet : nameB s.data.toList = true → letterN (s.data.toList.getD 0 0).toNat = true := fun h => by
    unfold nameB at h
    simp only [Bool.and_eq_true] at h
    exact h.1.2
  have htr := trim_name (l := s.data.toList) (by omega) (by omega)
  have hcon := Any.strings_Trim_laid Tryz.lays160 (by kernel_rfl) s ⟨#[97, 98, 99, 100, 101, 102, 103, 104, 105, 106, 107, 108, 109, 110, 111, 112, 113, 114, 115, 116, 117, 118, 119, 120, 121, 122, 65, 66, 67, 68, 69, 70, 71, 72, 73, 74, 75, 76, 77, 78, 79, 80, 81, 82, 83, 84, 85, 86, 87, 88, 89, 90, 48, 49, 50, 51, 52, 53, 54, 55, 56, 57]⟩ w hs (by decide) ascii_cs
  change Calls Tryz.prog 81 #[.string s, .string ⟨#[97, 98, 99, 100, 101, 102, 103, 104, 105, 106, 107, 108, 109, 110, 111, 112, 113, 114, 115, 116, 117, 118, 119, 120, 121, 122, 65, 66, 67, 68, 69, 70, 71, 72, 73, 74, 75, 76, 77, 78, 79, 80, 81, 82, 83, 84, 85, 86, 87, 88, 89, 90, 48, 49, 50, 51, 52, 53, 54, 55, 56, 57]⟩] w (fun e w' => e = .returned (.string ⟨(Lib.trimS s.data.toList csL).toArray⟩) ∧ Below w.heap.size w w') at hcon
  generalize hnB : nameB s.data.toList = nB at *
  generalize Lib.trimS s.data.toList csL = tr at *
  generalize (s.data.toList.getD 0 0).toNat = c at *
  have hat' : (((s[0]'hpos).toNat : Nat) : Int) = (c : Int) := by rw [hat]
  have HCON := Hid.mk hcon
  have HTR := Hid.mk htr
  have a1 : (1 : Int) ≤ (s.size : Int) := by omega
  have a2 : (s.size : Int) ≤ 16 := by omega
  clear hl hat hnB hcon htr h0 h1 hs
  by_cases hd : 48 ≤ c ∧ c ≤ 57
  · have b1 : (48 : Int) ≤ (c : Int) := by omega
    have b2 : (c : Int) ≤ 57 := by omega
    have hn : nB = false := by
      cases nB with
      | false => rfl
      | true =>
        have := hlet rfl
        unfold letterN at this
        simp only [decide_eq_true_eq] at this
        omega
    subst hn
    clear hlet hdg
    go_enter Tryz.func32, Tryz.ntmps32
    go_wp2_with fail
    go_ret
    exact ⟨rfl, Below.refl _ _⟩
  · have hdf : digitN c = false := by rw [hdg]; exact decide_eq_false hd
    have htr := HTR.out hdf
    obtain ⟨X, hX⟩ : ∃ X : ByteArray, X = ⟨tr.toArray⟩ := ⟨_, rfl⟩
    have hXe : X.toList.isEmpty = nB := by
      rw [hX, ByteArray.toList_eq]
      rcases htr with ⟨h1, h2⟩ | ⟨h1, h2⟩
      · rw [h2, h1]; rfl
      · rw [h2, List.isEmpty_eq_false_iff]; exact h1
    rw [← hX] at HCON
    have HXE := Hid.mk hXe
    clear hX htr HTR hlet hdg hXe
    rcases Nat.lt_or_ge c 48 with hlt | hge
    · have b1 : (c : Int) < 48 := by omega
      go_enter Tryz.func32, Tryz.ntmps32
      go_wp2_with fail
      refine HCON.out.mono ?_
      rintro e w1 ⟨rfl, hb1⟩
      go_wp2_with fail
      go_ret
      exact ⟨ret_b HXE.out, hb1⟩
    · have b1 : (48 : Int) ≤ (c : Int) := by omega
      have b2 : (57 : Int) < (c : Int) := by omega
      go_enter Tryz.func32, Tryz.ntmps32
      go_wp2_with fail
      refine HCON.out.mono ?_
      rintro e w1 ⟨rfl, hb1⟩
      go_wp2_with fail
      go_ret
      exact ⟨ret_b HXE.out, hb1⟩
end Bw
end Go.Proofs.YtlnkhlifkooohaaGreatDoor
