/- Plain facts on which frames are right, as the walk of CheckFrame asks for them. -/
import Derived.Test.YtapjiopnjfldhaaDoorA4
import Derived.Test.YtapjiopnjfldhaaDoorA1
import Derived.Test.YtapjiopnjfldhaaDoorA6
namespace Go.Proofs.YtapjiopnjfldhaaDoor
open Go.ChangeShapes Go.WideShapes Go.ChangeAt Go.RowKit
namespace Bw
set_option maxHeartbeats 2000000 in
theorem letsIn_any (x : Fn) (id : Nat) (lo fa re : Bool) (sz : Int) (a : Option Addr) (len cap : Nat) (w : World) (hx : okN x) (hid : id ≤ 536870911) :
    Calls Tryd.prog 40 #[x.f.val, .agg #[.int .i64 id, .bool lo, .bool fa, .bool re, .int .i64 sz, .slice a len cap]] w fun e w' => e = .returned (.bool (hitN x lo id)) ∧ Below w.heap.size w w' := by
  obtain ⟨x1, x2⟩ := ok_lt hx
  have e1 := and_i64 x.w x.m (by omega) (by omega)
  have e2 := and_i64 id x.m (by omega) (by omega)
  have HB : Hid (Below w.heap.size w ((box1 w x.f).alloc (.cells #[.int .i64 id, .bool lo, .bool fa, .bool re, .int .i64 sz, .slice a len cap] 28))) := Hid.mk ((box1_below w x.f).alloc (box1_below w x.f).size _)
  clear hx x1 x2
  unfold box1 at HB
  unfold hitN
  unfold Fn.f Fl.val at *
  obtain ⟨xw, xm, xl⟩ := x
  simp only at HB e1 e2 ⊢
  by_cases hl : xl = lo
  · subst hl
    by_cases h2 : xw &&& xm = id &&& xm
    · have b2 : (bits .and .i64 (xw : Int) (xm : Int) == bits .and .i64 (id : Int) (xm : Int)) = true := by rw [e1, e2, h2]; simp
      have hr : ((xl == xl) && (xw &&& xm == id &&& xm)) = true := by simp [h2]
      rw [hr]
      clear e1 e2 h2 hr
      go_enter Tryd.func40, Tryd.ntmps40
      go_wp2_with fail
      go_ret
      exact ⟨rfl, HB.out⟩
    · have b2 : (bits .and .i64 (xw : Int) (xm : Int) == bits .and .i64 (id : Int) (xm : Int)) = false := by rw [e1, e2, beq_eq_false_iff_ne]; omega
      have hr : ((xl == xl) && (xw &&& xm == id &&& xm)) = false := by simp [h2]
      rw [hr]
      clear e1 e2 h2 hr
      go_enter Tryd.func40, Tryd.ntmps40
      go_wp2_with fail
      go_ret
      exact ⟨rfl, HB.out⟩
  · have hb : (xl == lo) = false := by simpa using hl
    rw [hb]
    simp only [Bool.false_and]
    clear e1 e2 hl
    go_enter Tryd.func40, Tryd.ntmps40
    go_wp2_with fail
    go_ret
    exact ⟨rfl, HB.out⟩
end Bw
end Go.Proofs.YtapjiopnjfldhaaDoor
namespace Go.Proofs.YtapjiopnjfldhaaDoor
open Go.ChangeShapes Go.WideShapes Go.ChangeAt Go.RowKit
namespace Bw
open Bm Cm

set_option maxHeartbeats 1000000 in
theorem index_any (g n c : Nat) (xs : List Int) (v : Int) (w : World) (hn : xs.length = n) (hm : n ≤ 1000) (hx : IntsAt w g xs) :
    Calls Tryd.prog 58 #[.slice (some ⟨g, 0, none⟩) n c, .int .i64 v] w fun e w' => e = .returned (.int .i64 (idxI xs v)) ∧ w' = w := by
  have HX := Hid.mk hx
  have HN := Hid.mk hn
  clear hx hn
  go_enter Tryd.func58, Tryd.ntmps58
  go_wp2_with fail
  go_loopw [8] (fun i wr => ∃ j : Nat, j ≤ n ∧ i = .int .i64 j ∧ Hid (v ∉ xs.take j) ∧ wr = w) (fun i _ => n - (intOf i).toNat)
  case atStart => exact ⟨0, Nat.zero_le _, rfl, Hid.mk (by simp), rfl⟩
  case round =>
    obtain ⟨j, hj, rfl, HV, hwr⟩ := hrel
    subst hwr
    by_cases hlt : j < n
    · have hc := HX.out j (by rw [HN.out]; exact hlt)
      have hlt' : (j : Int) < (n : Int) := by omega
      have hjl : j < xs.length := by rw [HN.out]; exact hlt
      by_cases he : v = xs.getD j 0
      · have hb : (v == xs.getD j 0) = true := by rw [← he]; simp
        have hres : idxI xs v = j := by
          have e1 : xs = xs.take j ++ xs.drop j := (List.take_append_drop j xs).symm
          have e2 : xs.drop j = v :: xs.drop (j + 1) := by rw [List.drop_eq_getElem_cons hjl, he]; simp [List.getD, hjl]
          have e3 := idxI_at (xs.take j) (xs.drop (j + 1)) v HV.out
          rw [← e2, ← e1, List.length_take] at e3
          omega
        have HRES := Hid.mk hres
        generalize xs.getD j 0 = y at *
        clear hres hjl he
        go_wp2_with fail
        go_ret
        exact ⟨by rw [HRES.out]; rfl, rfl⟩
      · have hb : (v == xs.getD j 0) = false := by simpa using he
        have hnext : v ∉ xs.take (j + 1) := by
          rw [List.take_succ_eq_append_getElem hjl, List.mem_append, List.mem_singleton]
          rintro (h | h)
          · exact HV.out h
          · exact he (by rw [h]; simp [List.getD, hjl])
        have HNX := Hid.mk hnext
        generalize xs.getD j 0 = y at *
        clear hnext hjl he
        go_wp2_with fail
        go_roundw
        case rel => exact ⟨j + 1, by omega, by go_num, HNX, by first | rfl | trivial⟩
        case measure => simp [intOf]; omega
    · have e : j = n := by omega
      subst e
      have hres : idxI xs v = -1 := idxI_none xs v (by
        have := HV.out
        rwa [← HN.out, List.take_length] at this)
      have HRES := Hid.mk hres
      clear hres
      go_wp2_with fail
      go_ret
      exact ⟨by rw [HRES.out]; rfl, rfl⟩

set_option maxHeartbeats 1000000 in
theorem contains_any (g n c : Nat) (xs : List Int) (v : Int) (w : World) (hn : xs.length = n) (hm : n ≤ 1000) (hx : IntsAt w g xs) :
    Calls Tryd.prog 37 #[.slice (some ⟨g, 0, none⟩) n c, .int .i64 v] w fun e w' => e = .returned (.bool (decide (v ∈ xs))) ∧ w' = w := by
  have h1 := index_any g n c xs v w hn hm hx
  have he : decide (0 ≤ idxI xs v) = decide (v ∈ xs) := by
    by_cases h : v ∈ xs
    · obtain ⟨a, b, rfl, ha⟩ := first_of h
      rw [idxI_at a b v ha]; simp
    · rw [idxI_none xs v h]; simp [h]
  have HE := Hid.mk he
  generalize idxI xs v = q at *
  clear he hn hx
  go_enter Tryd.func37, Tryd.ntmps37
  go_wp2_with fail
  refine h1.mono ?_
  rintro e w1 ⟨rfl, hw1⟩
  subst hw1
  go_wp2_with fail
  go_ret
  exact ⟨by rw [← HE.out]; rfl, rfl⟩

def sizesC : Obj := .cells #[.int .i64 0, .int .i64 1, .int .i64 2, .int .i64 3, .int .i64 4, .int .i64 5, .int .i64 6, .int .i64 7, .int .i64 8, .int .i64 12, .int .i64 16, .int .i64 20, .int .i64 24, .int .i64 32, .int .i64 48, .int .i64 64] 3
set_option maxHeartbeats 1000000 in
theorem sizes_any (w : World) :
    Calls Tryd.prog 38 #[] w fun e w' => e = .returned (.slice (some ⟨w.heap.size, 0, none⟩) 16 16) ∧ w' = w.alloc sizesC := by
  go_enter Tryd.func38, Tryd.ntmps38
  set_option maxRecDepth 100000 in
  go_wp2_with fail
  go_ret
  exact ⟨rfl, rfl⟩
theorem sizes_ints (w : World) : IntsAt (w.alloc sizesC) w.heap.size sizesI := by
  intro i hi
  rw [cell_of_row _ _ i _ _ _ (heap_alloc_new w sizesC)]
  have hi' : i < 16 := hi
  clear hi
  match i, hi' with
  | 0, _ => rfl
  | 1, _ => rfl
  | 2, _ => rfl
  | 3, _ => rfl
  | 4, _ => rfl
  | 5, _ => rfl
  | 6, _ => rfl
  | 7, _ => rfl
  | 8, _ => rfl
  | 9, _ => rfl
  | 10, _ => rfl
  | 11, _ => rfl
  | 12, _ => rfl
  | 13, _ => rfl
  | 14, _ => rfl
  | 15, _ => rfl
  | n + 16, h => exact absurd h (by omega)
theorem sizes_ints' (w : World) (g : Nat) (hg : g = w.heap.size) : IntsAt (w.alloc sizesC) g sizesI := by subst hg; exact sizes_ints w
theorem sizes_intsD (w : World) (g : Nat) (hg : g = w.heap.size) : IntsAt (w.alloc sizesC).drew g sizesI := sizes_ints' w g hg
end Bw
end Go.Proofs.YtapjiopnjfldhaaDoor
namespace Go.Proofs.YtapjiopnjfldhaaDoor
open Go.ChangeShapes Go.WideShapes Go.ChangeAt Go.RowKit
namespace Bw
open Bm Cm

theorem ret_int {c x : Int} (h : c = x) : Ending.returned (.int .i64 c) = .returned (.int .i64 x) := by rw [h]
section
variable {id sz : Int} {lo fa re : Bool} {n : Nat}
theorem fr3a (h : id < 0 ∨ topI lo < id) : 3 = frEn id lo fa re sz n := by unfold frEn; rw [if_pos h]
theorem fr4a (h : ¬ (id < 0 ∨ topI lo < id)) (h2 : re = true ∧ (fa = true ∨ n ≠ 0)) : 4 = frEn id lo fa re sz n := by unfold frEn; rw [if_neg h, if_pos h2]
theorem fr3b (h : ¬ (id < 0 ∨ topI lo < id)) (h2 : ¬ (re = true ∧ (fa = true ∨ n ≠ 0))) (h3 : sz < 0 ∨ 8 < sz ∨ (0 < sz ∧ re = false)) : 3 = frEn id lo fa re sz n := by
  unfold frEn; rw [if_neg h, if_neg h2, if_pos h3]
theorem fr2 (h : ¬ (id < 0 ∨ topI lo < id)) (h2 : ¬ (re = true ∧ (fa = true ∨ n ≠ 0))) (h3 : ¬ (sz < 0 ∨ 8 < sz ∨ (0 < sz ∧ re = false))) (h4 : 64 < n ∨ (8 < n ∧ fa = false)) : 2 = frEn id lo fa re sz n := by
  unfold frEn; rw [if_neg h, if_neg h2, if_neg h3, if_pos h4]
theorem fr4b (h : ¬ (id < 0 ∨ topI lo < id)) (h2 : ¬ (re = true ∧ (fa = true ∨ n ≠ 0))) (h3 : ¬ (sz < 0 ∨ 8 < sz ∨ (0 < sz ∧ re = false))) (h4 : ¬ (64 < n ∨ (8 < n ∧ fa = false))) (h5 : n ∉ sizesL) : 4 = frEn id lo fa re sz n := by
  unfold frEn; rw [if_neg h, if_neg h2, if_neg h3, if_neg h4, if_neg h5]
theorem fr0 (h : ¬ (id < 0 ∨ topI lo < id)) (h2 : ¬ (re = true ∧ (fa = true ∨ n ≠ 0))) (h3 : ¬ (sz < 0 ∨ 8 < sz ∨ (0 < sz ∧ re = false))) (h4 : ¬ (64 < n ∨ (8 < n ∧ fa = false))) (h5 : n ∈ sizesL) : 0 = frEn id lo fa re sz n := by
  unfold frEn; rw [if_neg h, if_neg h2, if_neg h3, if_neg h4, if_pos h5]
end
theorem mem_sizes (n : Nat) : decide ((n : Int) ∈ sizesI) = decide (n ∈ sizesL) := by
  rw [Bool.eq_iff_iff, decide_eq_true_iff, decide_eq_true_iff, sizesI, List.mem_map]
  constructor
  · rintro ⟨m, hm, e⟩
    have : m = n := by omega
    rwa [← this]
  · intro h; exact ⟨n, h, rfl⟩

end Bw
end Go.Proofs.YtapjiopnjfldhaaDoor
