/- The document's own Value of a row, whole; and what Uint64 and Int64 tell of a big number below 2^62. -/
import Derived.Test.YtopoogdoepdedaaDoorBigValue
namespace Go.Proofs.YtopoogdoepdedaaDoor
open Go.ChangeShapes Go.WideShapes Go.ChangeAt Go.RowKit
namespace Ww
open Wm Bm

set_option maxHeartbeats 1000000 in
theorem value_row (s : ByteArray) (w : World) (h2 : s.size ≤ 1000) (hrow : rowB s.data.toList = true) :
    Calls Tryd.prog 16 #[.string s] w fun e w' => e = .returned (.pointer (some ⟨w.heap.size, 0, none⟩)) ∧ IsInt w' w.heap.size (val s.data.toList) ∧ Below w.heap.size w w' := by
  have hnew : (w.alloc (.cells #[.bool false, .slice none 0 0] 58)).heap[w.heap.size]? = some (.cells #[.bool false, .slice none 0 0] 58 (0, 0)) := heap_alloc_new w _
  by_cases h0 : s.size = 0
  · have he : s = ⟨#[]⟩ := by
      cases s with
      | mk d => have : d.size = 0 := h0; rw [Array.eq_empty_of_size_eq_zero this]
    subst he
    have HI : Hid (IsInt (w.alloc (.cells #[.bool false, .slice none 0 0] 58)) w.heap.size (val (ByteArray.mk #[]).data.toList)) := ⟨_, [], hnew, isW_nil _, Or.inl rfl, rfl⟩
    clear hnew hrow h0
    go_enter Tryd.func16, Tryd.ntmps16
    go_wp2_with fail
    go_ret
    exact ⟨rfl, HI.out, (Below.refl _ _).alloc (Nat.le_refl _) _⟩
  · have hset := setString_any w.heap.size s _ (by omega) h2 hrow hnew
    have HS := Hid.mk hset
    have hne3 : (s.toList == []) = false := by
      rw [beq_eq_false_iff_ne, ByteArray.toList_eq]
      intro e
      have := congrArg List.length e
      rw [Array.length_toList] at this
      exact h0 this
    clear hset hnew hrow
    go_enter Tryd.func16, Tryd.ntmps16
    go_wp2_with fail
    refine HS.out.mono ?_
    rintro e w1 ⟨⟨r, rfl⟩, hI, hb⟩
    have HI := Hid.mk hI
    clear hI
    go_wp2_with fail
    go_ret
    exact ⟨rfl, HI.out, ((Below.refl _ _).alloc (Nat.le_refl _) _).trans hb⟩

theorem addr_zero (p : Addr) : p.add 0 = p := by
  cases p with
  | mk b o t => unfold Addr.add; cases t <;> simp

theorem or_hi (x y : Nat) (hx : x < 4294967296) (hy : y < 1073741824) : bits .or .u64 (x : Int) ((y : Int) * 4294967296) = (x : Int) + 4294967296 * (y : Int) := by
  have hc : bits .or .u64 (x : Int) ((y : Int) * 4294967296) = bits .or .u64 ((y : Int) * 4294967296) (x : Int) := by simp only [bits, BitVec.or_comm]
  rw [hc, bits_join .u64 63 (by decide) (fun n h0 h1 => by simp only [IntKind.wrap, IntKind.bits, IntKind.signed]; simp; omega) 32 _ _ (by omega) (by omega) (by omega) (by omega) (by omega) (by omega)]
  omega

set_option maxHeartbeats 2000000 in
theorem int64_any (g n : Nat) (w : World) (h : IsInt w g n) (hn : n < 2 ^ 62) :
    Calls Tryd.prog 18 #[.pointer (some ⟨g, 0, none⟩)] w fun e w' => e = .returned (.int .i64 n) ∧ w' = w := by
  obtain ⟨va, xs, hg, hW, hT, hV⟩ := h
  have hl : xs.length ≤ 2 := len_of_val hT hV 62 hn 2 (by omega)
  obtain ⟨a, c, rfl, hc, hm, hnil, hcells, hok⟩ := hW
  have hc0 := cell_of_row w g 0 _ _ _ hg
  have hc1 := cell_of_row w g 1 _ _ _ hg
  simp only [List.getElem?_toArray, List.getElem?_cons_zero, List.getElem?_cons_succ] at hc0 hc1
  match xs, hl with
  | [], _ =>
    have hn0 : n = 0 := by rw [← hV]; rfl
    subst hn0
    clear hg hcells hnil hok hT hV
    simp only [List.length_nil] at hc1
    go_enter Tryd.func18, Tryd.ntmps18
    go_wp2
    go_ret
    exact ⟨rfl, rfl⟩
  | [x], _ =>
    have hv : x = n := by rw [← hV]; simp [valW]
    subst hv
    cases a with
    | none => exact absurd (hnil rfl) (by simp)
    | some p =>
      have h0 := hcells p rfl 0 (by simp)
      have hx := hok x (by simp)
      have hx' : (x : Int) ≤ 4294967295 := by omega
      rw [addr_zero] at h0
      simp only [List.length_singleton, List.getD_cons_zero] at hc1 h0
      clear hg hcells hnil hok hT hV
      go_enter Tryd.func18, Tryd.ntmps18
      go_wp2
      go_ret
      exact ⟨rfl, rfl⟩
  | [x, y], _ =>
    have hv : n = x + 4294967296 * y := by rw [← hV]; simp [valW]
    cases a with
    | none => exact absurd (hnil rfl) (by simp)
    | some p =>
      have h0 := hcells p rfl 0 (by simp)
      have h1 := hcells p rfl 1 (by simp)
      have hx := hok x (by simp)
      have hy := hok y (by simp)
      have hy2 : y < 1073741824 := by omega
      have hor := or_hi x y hx hy2
      have hx' : (x : Int) ≤ 4294967295 := by omega
      have hy' : (y : Int) ≤ 1073741823 := by omega
      rw [addr_zero] at h0
      simp only [List.length_cons, List.length_nil, List.getD_cons_zero, List.getD_cons_succ] at hc1 h0 h1
      have HV := Hid.mk hv
      have h1' : w.cell? ⟨p.block, p.off + 1, none⟩ = some (.int .u32 (y : Int)) := by rw [← h1]; simp [Addr.add]
      clear hg hcells hnil hok hT hV hv hn h1
      go_enter Tryd.func18, Tryd.ntmps18
      go_wp2
      go_ret
      exact ⟨by rw [HV.out]; rfl, rfl⟩
end Ww
end Go.Proofs.YtopoogdoepdedaaDoor
