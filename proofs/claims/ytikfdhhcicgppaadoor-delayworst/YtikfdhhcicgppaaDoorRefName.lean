/- What the document's own NameOf answers of a right frame. -/
import Derived.Test.YtikfdhhcicgppaaDoorC2
import Derived.Test.YtikfdhhcicgppaaDoorC13
import Derived.Test.YtikfdhhcicgppaaDoorR1
namespace Go.Proofs.YtikfdhhcicgppaaDoor
open Go.ChangeShapes Go.WideShapes Go.ChangeAt Go.RowKit
namespace Bw
open Bm Cm

set_option maxHeartbeats 4000000 in
theorem nameOf_any (f : Fr) (a : Option Addr) (len cap : Nat) (w : World) (h : w.cell? ⟨5, 1, none⟩ = some (.int .u8 1)) (h0 : 0 ≤ f.id) (h1 : f.id ≤ topI f.lo) :
    Calls Tryd.prog 37 #[frameV f.id f.lo f.fa f.re f.sz a len cap] w fun e w' => e = .returned (.string ⟨(nameL f).toArray⟩) ∧ Below w.heap.size w w' := by
  obtain ⟨id, lo, fa, re, sz, dt⟩ := f
  obtain ⟨n, rfl⟩ : ∃ n : Nat, id = (n : Int) := ⟨id.toNat, by simp only at h0; omega⟩
  simp only at h0 h1 ⊢
  unfold frameV
  have hb0 : Below w.heap.size w (w.alloc (.cells #[.int .i64 n, .bool lo, .bool fa, .bool re, .int .i64 sz, .slice a len cap] 58)) := (Below.refl _ _).alloc (Nat.le_refl _) _
  have hcell := cell_kept hb0 h
  cases lo
  · have hn : n < 2 ^ 11 := by simp [topI] at h1; omega
    have hr := Ww.rowOf_fit n 11 _ hcell (by omega) hn
    have hS := mk_list (bitsHead n 11 11)
    generalize ByteArray.mk (bitsHead n 11 11).toArray = S at *
    have hSs : S.size ≤ 11 := by rw [ba_size hS, bitsHead_length]; exact Nat.le_refl _
    have HSL := Hid.mk hS
    have HR := Hid.mk hr
    clear hr hcell hn h1 h0 hS
    cases re
    all_goals focus
      go_enter Tryd.func37, Tryd.ntmps37
      go_wp2_with fail
      refine HR.out.mono ?_
      rintro e w1 ⟨rfl, hb1⟩
      have hbel1 := bl2 hb0 hb1
      clear hb0 hb1 HR
      go_wp2_with fail
      go_ret
      exact ⟨ret_str1 (by rw [ba_cat, ba_cat, HSL.out, nameL]; simp [bitB]), hbel1⟩
  · have hn : n < 2 ^ 29 := by simp [topI] at h1; omega
    have hr := Ww.rowOf_fit n 29 _ hcell (by omega) hn
    have hS := mk_list (bitsHead n 29 29)
    generalize ByteArray.mk (bitsHead n 29 29).toArray = S at *
    have hSz : S.size = 29 := by rw [ba_size hS, bitsHead_length]
    have hSs : S.size ≤ 29 := by omega
    have hx1 : (S.extract 0 11).data.toList = (bitsHead n 29 29).take 11 := by
      have := extract_list S 0 11
      rw [Nat.zero_add] at this
      rw [this, List.drop_zero, hS]
    have hx2 : (S.extract 11 S.size).data.toList = (bitsHead n 29 29).drop 11 := by
      have e : S.size = 11 + (S.size - 11) := by omega
      rw [e, extract_list S 11 (S.size - 11), hS, List.take_of_length_le (by simp [bitsHead_length]; omega)]
    have hs1 : ∀ W, (Instr.slice 9 (.string S) none (some (.int .i64 11)) none).run Tryd.prog W = .ok (.string (S.extract 0 11)) W := by
      intro W
      rw [run_slice_string_h W _ S Tryd.underlying9 .i64 _ (by omega) (by omega)]; rfl
    have hs2 : ∀ W, (Instr.slice 9 (.string S) (some (.int .i64 11)) none none).run Tryd.prog W = .ok (.string (S.extract 11 S.size)) W := by
      intro W
      rw [run_slice_string_l W _ S Tryd.underlying9 .i64 _ (by omega) (by omega)]; rfl
    have hz1 : (S.extract 0 11).size ≤ 29 := by rw [ba_size hx1, List.length_take]; omega
    have hz2 : (S.extract 11 S.size).size ≤ 29 := by rw [ba_size hx2, List.length_drop, bitsHead_length]; omega
    generalize S.extract 0 11 = X1 at *
    generalize S.extract 11 S.size = X2 at *
    have HX1 := Hid.mk hx1
    have HX2 := Hid.mk hx2
    have HR := Hid.mk hr
    clear hr hcell hn h1 h0 hS hSz hx1 hx2
    cases re
    all_goals focus
      go_enter Tryd.func37, Tryd.ntmps37
      go_wp2_with fail
      refine HR.out.mono ?_
      rintro e w1 ⟨rfl, hb1⟩
      have hbel1 := bl2 hb0 hb1
      clear hb0 hb1 HR
      go_wp2_with fail
      go_quiet (fail)
      have hbel2 : Below w.heap.size w (w1.drewN nq) := bl2 hbel1 ⟨rfl, rfl, rfl, Nat.le_refl _, fun _ _ => rfl⟩
      clear hs1 hs2 hbel1
      go_wp2_with fail
      go_ret
      exact ⟨ret_str1 (by rw [ba_cat, ba_cat, ba_cat, HX1.out, HX2.out, nameL]; simp [bitB]), hbel2⟩
end Bw
end Go.Proofs.YtikfdhhcicgppaaDoor
