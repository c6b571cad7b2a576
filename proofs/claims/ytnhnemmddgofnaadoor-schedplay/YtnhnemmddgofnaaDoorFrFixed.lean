/- What frame.fixedPart answers: the count and the sum of a fast frame, with its fixed bits. -/
import Derived.Test.YtnhnemmddgofnaaDoorFrCount
import Derived.Test.YtnhnemmddgofnaaDoorC7
import Derived.Test.YtnhnemmddgofnaaDoorStuffFixed
namespace Go.Proofs.YtnhnemmddgofnaaDoor
open Go.ChangeShapes Go.WideShapes Go.ChangeAt Go.RowKit
namespace Bw
open Bm Cm

def fixedL (p : List UInt8) (q n : Nat) : List UInt8 := fixL (grayL (q % 8) ++ sumL (endK n) (p ++ grayL (q % 8))) (lastB p)
theorem fastL_fixed (h p : List UInt8) (n : Nat) : fastL h p n = fixedL p (p.length - h.length) n := rfl
theorem fix_lenE (l : List UInt8) (a : UInt8) : ∀ i, (fixR l a i).length = i + (i + 3) / 4
  | 0 => rfl
  | i + 1 => by
    rw [fixR]
    have h := fix_lenE l a i
    split
    · simp [h]; omega
    · simp [h]; omega
theorem fixedL_len (p : List UInt8) (q n : Nat) : (fixedL p q n).length = if 16 < n then 32 else 27 := by
  unfold fixedL fixL
  rw [fix_lenE, List.length_append, sumL_len, (gray_row _ (Nat.mod_lt _ (by omega))).2]
  unfold endK
  split
  · rw [show kS 2 = 21 from rfl]
  · rw [show kS 1 = 17 from rfl]

set_option maxHeartbeats 4000000 in
theorem fixedPart_any (p : ByteArray) (q n : Nat) (w : World) (hR : RulesAt w) (hp1 : 1 ≤ p.size) (hp : p.size ≤ 990) (hrow : rowB p.data.toList = true) (hn : n ≤ 1000) :
    Calls Tryd.prog 53 #[.string p, .int .i64 q, .int .i64 n] w fun e w' => e = .returned (.string ⟨(fixedL p.data.toList q n).toArray⟩) ∧ Below w.heap.size w w' := by
  have hpl : p.data.toList.length = p.size := by simp
  have hm8 : q % 8 < 8 := Nat.mod_lt _ (by omega)
  have hgr := gray_row (q % 8) hm8
  have hco := fun W => countOf_any q W
  unfold fixedL fixL lastB
  rw [hpl]
  have hcl := mk_list (grayL (q % 8))
  generalize grayL (q % 8) = gl at *
  generalize ByteArray.mk gl.toArray = C at *
  have hCs : C.size = 4 := by rw [ba_size hcl, hgr.2]
  obtain ⟨Y, hY⟩ : ∃ Y, Y = p ++ C := ⟨_, rfl⟩
  have hYl : Y.data.toList = p.data.toList ++ gl := by rw [hY, ba_cat, hcl]
  have hYs : Y.size = p.size + 4 := by rw [ba_size hYl, List.length_append, hgr.2, hpl]
  have hYr : rowB Y.data.toList = true := by rw [hYl, rowB_append, hrow, hgr.1]; rfl
  have hYc : checkE Y.data.toList = 0 := checkE_row hYr (by simp; omega)
  have hso := fun W hW => sum_ok (endK n) Y W hW hYc (endK_le n)
  rw [hYl] at hso
  have hsl := mk_list (sumL (endK n) (p.data.toList ++ gl))
  have hsn := sumL_len (endK n) (p.data.toList ++ gl)
  have hsr := sumL_row (endK n) (p.data.toList ++ gl)
  generalize sumL (endK n) (p.data.toList ++ gl) = sl at *
  generalize ByteArray.mk sl.toArray = S at *
  obtain ⟨Z, hZ⟩ : ∃ Z, Z = C ++ S := ⟨_, rfl⟩
  have hZl : Z.data.toList = gl ++ sl := by rw [hZ, ba_cat, hcl, hsl]
  have hk21 := (kinds_ok (endK n) (endK_le n)).2.1
  have hSs : S.size ≤ 21 := by rw [ba_size hsl, hsn]; exact hk21
  have hZs : Z.size = (gl ++ sl).length := ba_size hZl
  have hZr : rowB Z.data.toList = true := by rw [hZl, rowB_append, hgr.1, hsr]; rfl
  have hZc : checkE Z.data.toList = 0 := checkE_row hZr (by rw [hZl, List.length_append, hgr.2, hsn]; omega)
  have hpz : p.size - 1 < p.size := by clear hYs hCs hZs; omega
  have hpi : p[p.size - 1] = p.data.toList.getD (p.size - 1) 0 := at_getD p _ hpz
  have hlb : bit (p.data.toList.getD (p.size - 1) 0) = true := by rw [← hpi]; exact rowB_at hrow _ hpz
  have hfx := fun W => fixed_ok Z (p.data.toList.getD (p.size - 1) 0) W hZc hlb
  rw [hZl, hZs] at hfx
  have HSO := Hid.mk hso
  have HFX := Hid.mk hfx
  have HYE := Hid.mk hY
  have HZE := Hid.mk hZ
  have HR := Hid.mk hR
  have HCO := Hid.mk hco
  have hCm : C.size ≤ 4 := by omega
  have hpe : (1 : Int) ≤ (p.size : Int) := by omega
  have hek : (endK n : Int) = if (16 : Int) < (n : Int) then 2 else 1 := by unfold endK; split <;> split <;> omega
  have hZn := congrArg List.length hZl
  generalize p.data.toList.getD (p.size - 1) 0 = lb at *
  generalize ByteArray.mk (fixR (gl ++ sl) lb (gl ++ sl).length).toArray = FB at *
  clear hpl hgr hcl hCs hYl hYs hYr hYc hso hsl hsn hsr hZl hZs hZr hZc hfx hY hZ hrow hR hco hlb hZn hm8
  by_cases h16 : (16 : Int) < (n : Int)
  · rw [if_pos h16] at hek
    have hs2 := HSO.out
    simp only [hek, HYE.out] at hs2
    have HS2 := Hid.mk hs2
    have hf2 := HFX.out
    simp only [HZE.out] at hf2
    have HF2 := Hid.mk hf2
    clear hek hs2 hf2
    go_enter Tryd.func53, Tryd.ntmps53
    go_wp2_with fail
    refine (HCO.out _).mono ?_
    rintro e w1 ⟨rfl, hb1⟩
    go_wp2_with fail
    refine (HS2.out _ (HR.out.kept hb1)).mono ?_
    rintro e w2 ⟨rfl, hb2⟩
    have hbel2 := bl2 hb1 hb2
    clear hb1 hb2
    go_wp2_with fail
    refine (HF2.out _).mono ?_
    rintro e w3 ⟨rfl, hb3⟩
    have hbel3 := bl2 hbel2 hb3
    clear hbel2 hb3
    go_wp2_with fail
    go_ret
    exact ⟨rfl, hbel3⟩
  · rw [if_neg h16] at hek
    have hs2 := HSO.out
    simp only [hek, HYE.out] at hs2
    have HS2 := Hid.mk hs2
    have hf2 := HFX.out
    simp only [HZE.out] at hf2
    have HF2 := Hid.mk hf2
    clear hek hs2 hf2
    go_enter Tryd.func53, Tryd.ntmps53
    go_wp2_with fail
    refine (HCO.out _).mono ?_
    rintro e w1 ⟨rfl, hb1⟩
    go_wp2_with fail
    refine (HS2.out _ (HR.out.kept hb1)).mono ?_
    rintro e w2 ⟨rfl, hb2⟩
    have hbel2 := bl2 hb1 hb2
    clear hb1 hb2
    go_wp2_with fail
    refine (HF2.out _).mono ?_
    rintro e w3 ⟨rfl, hb3⟩
    have hbel3 := bl2 hbel2 hb3
    clear hbel2 hb3
    go_wp2_with fail
    go_ret
    exact ⟨rfl, hbel3⟩
end Bw
end Go.Proofs.YtnhnemmddgofnaaDoor
