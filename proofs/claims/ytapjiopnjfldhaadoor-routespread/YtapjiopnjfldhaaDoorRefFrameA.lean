/- What the document's own CheckFrame answers of any short frame. -/
import Derived.Test.YtapjiopnjfldhaaDoorA11
import Derived.Deep.RegionWith
namespace Go.Proofs.YtapjiopnjfldhaaDoor
open Go.ChangeShapes Go.WideShapes Go.ChangeAt Go.RowKit
namespace Bw
open Bm Cm

set_option maxHeartbeats 16000000 in
theorem checkFrame_snd (id : Int) (sz : Int) (a : Option Addr) (len cap : Nat) (w : World) (hlen : len ≤ 9223372036854775807)  :
    Calls Tryd.prog 13 #[frameV id false false false sz a len cap] w fun e w' => e = .returned (.int .i64 (frEn id false false false sz len)) ∧ Below w.heap.size w w' := by
  unfold frameV
  have hb0 : Below w.heap.size w (w.alloc (.cells #[.int .i64 id, .bool false, .bool false, .bool false, .int .i64 sz, .slice a len cap] 28)) := (Below.refl _ _).alloc (Nat.le_refl _) _
  have hs := fun W => sizes_any W
  have hcn := fun g W hW => contains_any g 16 16 sizesI (len : Int) W rfl (by omega) hW
  simp only [mem_sizes] at hcn
  have HS := Hid.mk hs
  have HC := Hid.mk hcn
  clear hs hcn
  go_enter Tryd.func13, Tryd.ntmps13
  go_wp2_with fail
  all_goals first
    | (go_ret; exact ⟨ret_int (fr3a (by (simp [topI]; omega))), hb0⟩)
    | (go_ret; exact ⟨ret_int (fr4a (by (simp [topI]; omega)) (by (first | omega | (simp; done) | (simp; omega)))), hb0⟩)
    | (go_ret; exact ⟨ret_int (fr3b (by (simp [topI]; omega)) (by (first | omega | (simp; done) | (simp; omega))) (by (first | omega | (simp; done) | (simp; omega)))), hb0⟩)
    | (go_ret; exact ⟨ret_int (fr2 (by (simp [topI]; omega)) (by (first | omega | (simp; done) | (simp; omega))) (by (first | omega | (simp; done) | (simp; omega))) (by (first | omega | (simp; done) | (simp; omega)))), hb0⟩)
    | skip
  all_goals focus
    by_cases hmem : len ∈ sizesL
    · have hd : decide (len ∈ sizesL) = true := by simpa using hmem
      set_option maxRecDepth 100000 in
      go_region_with (first
        | (go_at_call 38; refine (HS.out _).mono ?_; rintro e w1 ⟨rfl, hw1⟩; subst hw1)
        | (go_at_call 37; refine (HC.out _ _ (sizes_intsD _ _ (by simp))).mono ?_; rintro e w1 ⟨rfl, hw1⟩; subst hw1))
      all_goals focus
        go_wp2_with fail
        go_ret
        exact ⟨ret_int (fr0 (by (simp [topI]; omega)) (by (first | omega | (simp; done) | (simp; omega))) (by (first | omega | (simp; done) | (simp; omega))) (by (first | omega | (simp; done) | (simp; omega))) hmem), (hb0.alloc (by simp) _).drew⟩
    · have hd : decide (len ∈ sizesL) = false := by simpa using hmem
      set_option maxRecDepth 100000 in
      go_region_with (first
        | (go_at_call 38; refine (HS.out _).mono ?_; rintro e w1 ⟨rfl, hw1⟩; subst hw1)
        | (go_at_call 37; refine (HC.out _ _ (sizes_intsD _ _ (by simp))).mono ?_; rintro e w1 ⟨rfl, hw1⟩; subst hw1))
      all_goals focus
        go_wp2_with fail
        go_ret
        exact ⟨ret_int (fr4b (by (simp [topI]; omega)) (by (first | omega | (simp; done) | (simp; omega))) (by (first | omega | (simp; done) | (simp; omega))) (by (first | omega | (simp; done) | (simp; omega))) hmem), (hb0.alloc (by simp) _).drew⟩

set_option maxHeartbeats 16000000 in
theorem checkFrame_snr0 (id : Int) (sz : Int) (a : Option Addr) (len cap : Nat) (w : World) (hl0 : len = 0) :
    Calls Tryd.prog 13 #[frameV id false false true sz a len cap] w fun e w' => e = .returned (.int .i64 (frEn id false false true sz len)) ∧ Below w.heap.size w w' := by
  have hz : ((len : Int) != 0) = false := by simp; omega
  have hl00 : len ≤ 0 := by omega
  clear hl0
  unfold frameV
  have hb0 : Below w.heap.size w (w.alloc (.cells #[.int .i64 id, .bool false, .bool false, .bool true, .int .i64 sz, .slice a len cap] 28)) := (Below.refl _ _).alloc (Nat.le_refl _) _
  have hs := fun W => sizes_any W
  have hcn := fun g W hW => contains_any g 16 16 sizesI (len : Int) W rfl (by omega) hW
  simp only [mem_sizes] at hcn
  have HS := Hid.mk hs
  have HC := Hid.mk hcn
  clear hs hcn
  go_enter Tryd.func13, Tryd.ntmps13
  go_wp2_with fail
  all_goals first
    | (go_ret; exact ⟨ret_int (fr3a (by (simp [topI]; omega))), hb0⟩)
    | (go_ret; exact ⟨ret_int (fr4a (by (simp [topI]; omega)) (by (first | omega | (simp; done) | (simp; omega)))), hb0⟩)
    | (go_ret; exact ⟨ret_int (fr3b (by (simp [topI]; omega)) (by (first | omega | (simp; done) | (simp; omega))) (by (first | omega | (simp; done) | (simp; omega)))), hb0⟩)
    | (go_ret; exact ⟨ret_int (fr2 (by (simp [topI]; omega)) (by (first | omega | (simp; done) | (simp; omega))) (by (first | omega | (simp; done) | (simp; omega))) (by (first | omega | (simp; done) | (simp; omega)))), hb0⟩)
    | skip
  all_goals focus
    by_cases hmem : len ∈ sizesL
    · have hd : decide (len ∈ sizesL) = true := by simpa using hmem
      set_option maxRecDepth 100000 in
      go_region_with (first
        | (go_at_call 38; refine (HS.out _).mono ?_; rintro e w1 ⟨rfl, hw1⟩; subst hw1)
        | (go_at_call 37; refine (HC.out _ _ (sizes_intsD _ _ (by simp))).mono ?_; rintro e w1 ⟨rfl, hw1⟩; subst hw1))
      all_goals focus
        go_wp2_with fail
        go_ret
        exact ⟨ret_int (fr0 (by (simp [topI]; omega)) (by (first | omega | (simp; done) | (simp; omega))) (by (first | omega | (simp; done) | (simp; omega))) (by (first | omega | (simp; done) | (simp; omega))) hmem), (hb0.alloc (by simp) _).drew⟩
    · have hd : decide (len ∈ sizesL) = false := by simpa using hmem
      set_option maxRecDepth 100000 in
      go_region_with (first
        | (go_at_call 38; refine (HS.out _).mono ?_; rintro e w1 ⟨rfl, hw1⟩; subst hw1)
        | (go_at_call 37; refine (HC.out _ _ (sizes_intsD _ _ (by simp))).mono ?_; rintro e w1 ⟨rfl, hw1⟩; subst hw1))
      all_goals focus
        go_wp2_with fail
        go_ret
        exact ⟨ret_int (fr4b (by (simp [topI]; omega)) (by (first | omega | (simp; done) | (simp; omega))) (by (first | omega | (simp; done) | (simp; omega))) (by (first | omega | (simp; done) | (simp; omega))) hmem), (hb0.alloc (by simp) _).drew⟩

set_option maxHeartbeats 16000000 in
theorem checkFrame_snr1 (id : Int) (sz : Int) (a : Option Addr) (len cap : Nat) (w : World) (hlen : len ≤ 9223372036854775807) (hl1 : 1 ≤ len) :
    Calls Tryd.prog 13 #[frameV id false false true sz a len cap] w fun e w' => e = .returned (.int .i64 (frEn id false false true sz len)) ∧ Below w.heap.size w w' := by
  have hne : ((len : Int) != 0) = true := by simp; omega
  unfold frameV
  have hb0 : Below w.heap.size w (w.alloc (.cells #[.int .i64 id, .bool false, .bool false, .bool true, .int .i64 sz, .slice a len cap] 28)) := (Below.refl _ _).alloc (Nat.le_refl _) _
  have hs := fun W => sizes_any W
  have hcn := fun g W hW => contains_any g 16 16 sizesI (len : Int) W rfl (by omega) hW
  simp only [mem_sizes] at hcn
  have HS := Hid.mk hs
  have HC := Hid.mk hcn
  clear hs hcn
  go_enter Tryd.func13, Tryd.ntmps13
  go_wp2_with fail
  all_goals first
    | (go_ret; exact ⟨ret_int (fr3a (by (simp [topI]; omega))), hb0⟩)
    | (go_ret; exact ⟨ret_int (fr4a (by (simp [topI]; omega)) (by (first | omega | (simp; done) | (simp; omega)))), hb0⟩)
    | (go_ret; exact ⟨ret_int (fr3b (by (simp [topI]; omega)) (by (first | omega | (simp; done) | (simp; omega))) (by (first | omega | (simp; done) | (simp; omega)))), hb0⟩)
    | (go_ret; exact ⟨ret_int (fr2 (by (simp [topI]; omega)) (by (first | omega | (simp; done) | (simp; omega))) (by (first | omega | (simp; done) | (simp; omega))) (by (first | omega | (simp; done) | (simp; omega)))), hb0⟩)
    | skip
  all_goals focus
    by_cases hmem : len ∈ sizesL
    · have hd : decide (len ∈ sizesL) = true := by simpa using hmem
      set_option maxRecDepth 100000 in
      go_region_with (first
        | (go_at_call 38; refine (HS.out _).mono ?_; rintro e w1 ⟨rfl, hw1⟩; subst hw1)
        | (go_at_call 37; refine (HC.out _ _ (sizes_intsD _ _ (by simp))).mono ?_; rintro e w1 ⟨rfl, hw1⟩; subst hw1))
      all_goals focus
        go_wp2_with fail
        go_ret
        exact ⟨ret_int (fr0 (by (simp [topI]; omega)) (by (first | omega | (simp; done) | (simp; omega))) (by (first | omega | (simp; done) | (simp; omega))) (by (first | omega | (simp; done) | (simp; omega))) hmem), (hb0.alloc (by simp) _).drew⟩
    · have hd : decide (len ∈ sizesL) = false := by simpa using hmem
      set_option maxRecDepth 100000 in
      go_region_with (first
        | (go_at_call 38; refine (HS.out _).mono ?_; rintro e w1 ⟨rfl, hw1⟩; subst hw1)
        | (go_at_call 37; refine (HC.out _ _ (sizes_intsD _ _ (by simp))).mono ?_; rintro e w1 ⟨rfl, hw1⟩; subst hw1))
      all_goals focus
        go_wp2_with fail
        go_ret
        exact ⟨ret_int (fr4b (by (simp [topI]; omega)) (by (first | omega | (simp; done) | (simp; omega))) (by (first | omega | (simp; done) | (simp; omega))) (by (first | omega | (simp; done) | (simp; omega))) hmem), (hb0.alloc (by simp) _).drew⟩

theorem checkFrame_snr (id : Int) (sz : Int) (a : Option Addr) (len cap : Nat) (w : World) (hlen : len ≤ 9223372036854775807) :
    Calls Tryd.prog 13 #[frameV id false false true sz a len cap] w fun e w' => e = .returned (.int .i64 (frEn id false false true sz len)) ∧ Below w.heap.size w w' := by
  by_cases h : len = 0
  · exact checkFrame_snr0 id sz a len cap w h
  · exact checkFrame_snr1 id sz a len cap w hlen (by omega)

set_option maxHeartbeats 16000000 in
theorem checkFrame_sfd (id : Int) (sz : Int) (a : Option Addr) (len cap : Nat) (w : World) (hlen : len ≤ 9223372036854775807)  :
    Calls Tryd.prog 13 #[frameV id false true false sz a len cap] w fun e w' => e = .returned (.int .i64 (frEn id false true false sz len)) ∧ Below w.heap.size w w' := by
  unfold frameV
  have hb0 : Below w.heap.size w (w.alloc (.cells #[.int .i64 id, .bool false, .bool true, .bool false, .int .i64 sz, .slice a len cap] 28)) := (Below.refl _ _).alloc (Nat.le_refl _) _
  have hs := fun W => sizes_any W
  have hcn := fun g W hW => contains_any g 16 16 sizesI (len : Int) W rfl (by omega) hW
  simp only [mem_sizes] at hcn
  have HS := Hid.mk hs
  have HC := Hid.mk hcn
  clear hs hcn
  go_enter Tryd.func13, Tryd.ntmps13
  go_wp2_with fail
  all_goals first
    | (go_ret; exact ⟨ret_int (fr3a (by (simp [topI]; omega))), hb0⟩)
    | (go_ret; exact ⟨ret_int (fr4a (by (simp [topI]; omega)) (by (first | omega | (simp; done) | (simp; omega)))), hb0⟩)
    | (go_ret; exact ⟨ret_int (fr3b (by (simp [topI]; omega)) (by (first | omega | (simp; done) | (simp; omega))) (by (first | omega | (simp; done) | (simp; omega)))), hb0⟩)
    | (go_ret; exact ⟨ret_int (fr2 (by (simp [topI]; omega)) (by (first | omega | (simp; done) | (simp; omega))) (by (first | omega | (simp; done) | (simp; omega))) (by (first | omega | (simp; done) | (simp; omega)))), hb0⟩)
    | skip
  all_goals focus
    by_cases hmem : len ∈ sizesL
    · have hd : decide (len ∈ sizesL) = true := by simpa using hmem
      set_option maxRecDepth 100000 in
      go_region_with (first
        | (go_at_call 38; refine (HS.out _).mono ?_; rintro e w1 ⟨rfl, hw1⟩; subst hw1)
        | (go_at_call 37; refine (HC.out _ _ (sizes_intsD _ _ (by simp))).mono ?_; rintro e w1 ⟨rfl, hw1⟩; subst hw1))
      all_goals focus
        go_wp2_with fail
        go_ret
        exact ⟨ret_int (fr0 (by (simp [topI]; omega)) (by (first | omega | (simp; done) | (simp; omega))) (by (first | omega | (simp; done) | (simp; omega))) (by (first | omega | (simp; done) | (simp; omega))) hmem), (hb0.alloc (by simp) _).drew⟩
    · have hd : decide (len ∈ sizesL) = false := by simpa using hmem
      set_option maxRecDepth 100000 in
      go_region_with (first
        | (go_at_call 38; refine (HS.out _).mono ?_; rintro e w1 ⟨rfl, hw1⟩; subst hw1)
        | (go_at_call 37; refine (HC.out _ _ (sizes_intsD _ _ (by simp))).mono ?_; rintro e w1 ⟨rfl, hw1⟩; subst hw1))
      all_goals focus
        go_wp2_with fail
        go_ret
        exact ⟨ret_int (fr4b (by (simp [topI]; omega)) (by (first | omega | (simp; done) | (simp; omega))) (by (first | omega | (simp; done) | (simp; omega))) (by (first | omega | (simp; done) | (simp; omega))) hmem), (hb0.alloc (by simp) _).drew⟩

set_option maxHeartbeats 16000000 in
theorem checkFrame_sfr (id : Int) (sz : Int) (a : Option Addr) (len cap : Nat) (w : World) (_hlen : len ≤ 9223372036854775807)  :
    Calls Tryd.prog 13 #[frameV id false true true sz a len cap] w fun e w' => e = .returned (.int .i64 (frEn id false true true sz len)) ∧ Below w.heap.size w w' := by
  unfold frameV
  have hb0 : Below w.heap.size w (w.alloc (.cells #[.int .i64 id, .bool false, .bool true, .bool true, .int .i64 sz, .slice a len cap] 28)) := (Below.refl _ _).alloc (Nat.le_refl _) _
  have hs := fun W => sizes_any W
  have hcn := fun g W hW => contains_any g 16 16 sizesI (len : Int) W rfl (by omega) hW
  simp only [mem_sizes] at hcn
  have HS := Hid.mk hs
  have HC := Hid.mk hcn
  clear hs hcn
  go_enter Tryd.func13, Tryd.ntmps13
  go_wp2_with fail
  all_goals first
    | (go_ret; exact ⟨ret_int (fr3a (by (simp [topI]; omega))), hb0⟩)
    | (go_ret; exact ⟨ret_int (fr4a (by (simp [topI]; omega)) (by (first | omega | (simp; done) | (simp; omega)))), hb0⟩)
    | (go_ret; exact ⟨ret_int (fr3b (by (simp [topI]; omega)) (by (first | omega | (simp; done) | (simp; omega))) (by (first | omega | (simp; done) | (simp; omega)))), hb0⟩)
    | (go_ret; exact ⟨ret_int (fr2 (by (simp [topI]; omega)) (by (first | omega | (simp; done) | (simp; omega))) (by (first | omega | (simp; done) | (simp; omega))) (by (first | omega | (simp; done) | (simp; omega)))), hb0⟩)
    | skip
  all_goals focus
    by_cases hmem : len ∈ sizesL
    · have hd : decide (len ∈ sizesL) = true := by simpa using hmem
      set_option maxRecDepth 100000 in
      go_region_with (first
        | (go_at_call 38; refine (HS.out _).mono ?_; rintro e w1 ⟨rfl, hw1⟩; subst hw1)
        | (go_at_call 37; refine (HC.out _ _ (sizes_intsD _ _ (by simp))).mono ?_; rintro e w1 ⟨rfl, hw1⟩; subst hw1))
      all_goals focus
        go_wp2_with fail
        go_ret
        exact ⟨ret_int (fr0 (by (simp [topI]; omega)) (by (first | omega | (simp; done) | (simp; omega))) (by (first | omega | (simp; done) | (simp; omega))) (by (first | omega | (simp; done) | (simp; omega))) hmem), (hb0.alloc (by simp) _).drew⟩
    · have hd : decide (len ∈ sizesL) = false := by simpa using hmem
      set_option maxRecDepth 100000 in
      go_region_with (first
        | (go_at_call 38; refine (HS.out _).mono ?_; rintro e w1 ⟨rfl, hw1⟩; subst hw1)
        | (go_at_call 37; refine (HC.out _ _ (sizes_intsD _ _ (by simp))).mono ?_; rintro e w1 ⟨rfl, hw1⟩; subst hw1))
      all_goals focus
        go_wp2_with fail
        go_ret
        exact ⟨ret_int (fr4b (by (simp [topI]; omega)) (by (first | omega | (simp; done) | (simp; omega))) (by (first | omega | (simp; done) | (simp; omega))) (by (first | omega | (simp; done) | (simp; omega))) hmem), (hb0.alloc (by simp) _).drew⟩

end Bw
end Go.Proofs.YtapjiopnjfldhaaDoor
