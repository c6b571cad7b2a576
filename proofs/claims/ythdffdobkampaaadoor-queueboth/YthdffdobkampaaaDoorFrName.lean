/- What frame.name and form answer. -/
import Derived.Test.YthdffdobkampaaaDoorFrameOk
import Derived.Test.YthdffdobkampaaaDoorFrCheck
import Derived.Test.YthdffdobkampaaaDoorFrBit
import Derived.Test.YthdffdobkampaaaDoorBitsRow
namespace Go.Proofs.YthdffdobkampaaaDoor
open Go.ChangeShapes Go.WideShapes Go.ChangeAt Go.RowKit
namespace Bw
open Bm Cm

theorem head_take (n : Nat) : bitsHead (n / 262144) 11 11 = (bitsHead n 29 29).take 11 := by
  unfold bitsHead
  rw [← List.map_take, List.take_range]
  apply List.map_congr_left
  intro i hi
  have hi' : i < 11 := by simpa using hi
  unfold bitAt
  have e : n / 262144 / 2 ^ (11 - 1 - i) = n / 2 ^ (29 - 1 - i) := by
    rw [Nat.div_div_eq_div_mul, show (262144 : Nat) = 2 ^ 18 by rfl, ← Nat.pow_add, show 18 + (11 - 1 - i) = 29 - 1 - i by omega]
  rw [e]
theorem head_drop (n : Nat) : bitsHead (n % 262144) 18 18 = (bitsHead n 29 29).drop 11 := by
  apply List.ext_getElem
  · simp [bitsHead_length]
  intro i h1 h2
  have hi : i < 18 := by simpa [bitsHead_length] using h1
  simp only [bitsHead, List.getElem_map, List.getElem_drop, List.getElem_range]
  unfold bitAt
  have e : n % 262144 / 2 ^ (18 - 1 - i) % 2 = n / 2 ^ (29 - 1 - (11 + i)) % 2 := by
    rw [show 29 - 1 - (11 + i) = 18 - 1 - i by omega, show (262144 : Nat) = 2 ^ 18 by rfl]
    have h := Nat.testBit_mod_two_pow n 18 (18 - 1 - i)
    have hd : decide (18 - 1 - i < 18) = true := by simp; omega
    rw [hd, Bool.true_and, Nat.testBit_eq_decide_div_mod_eq, Nat.testBit_eq_decide_div_mod_eq] at h
    have h' : (n % 2 ^ 18 / 2 ^ (18 - 1 - i) % 2 = 1) ↔ (n / 2 ^ (18 - 1 - i) % 2 = 1) := by simpa using h
    omega
  rw [e]
theorem and_low (n : Nat) (h : n < 2 ^ 29) : bits .and .i64 (n : Int) 262143 = ((n % 262144 : Nat) : Int) := by
  have := bits_mask .i64 63 (by decide) (fun n h0 h1 => by rw [IntKind.wrap_i64]; omega) 18 (by decide) (n : Int) (by omega) (by omega)
  simpa using this

set_option maxHeartbeats 4000000 in
theorem name_shortP (n : Nat) (fa re : Bool) (sz : Int) (a : Option Addr) (len cap : Nat) (w : World) (hn : n < 2 ^ 11) :
    Calls Tryd.prog 43 #[frameV n false fa re sz a len cap] w fun e w' => e = .returned (.string ⟨(bitsHead n 11 11 ++ [bitB re, 48]).toArray⟩) ∧ Below w.heap.size w w' := by
  have hB := below_box w n false fa re sz a len cap
  have hK := FrAt.box w n false fa re sz a len cap
  unfold frameC at hB hK
  unfold frameV
  have hr := fun W => row_ok n 11 W (by omega) hn
  have hS := mk_list (bitsHead n 11 11)
  generalize ByteArray.mk (bitsHead n 11 11).toArray = S at *
  have hSs : S.size ≤ 11 := by rw [ba_size hS, bitsHead_length]; exact Nat.le_refl _
  have hBs : (ByteArray.mk #[bitB re]).size = 1 := rfl
  have hbl : (ByteArray.mk #[bitB re]).data.toList = [bitB re] := rfl
  have hfb := fun W => frBit_any re W
  generalize ByteArray.mk #[bitB re] = B at *
  have hBm : B.size ≤ 1 := by omega
  have HSL := Hid.mk hS
  have HR := Hid.mk hr
  have HBL := Hid.mk hbl
  have HFB := Hid.mk hfb
  have HK := Hid.mk hK
  clear hr hn hS hbl hfb hBs hK
  go_enter Tryd.func43, Tryd.ntmps43
  go_wp2_with fail
  refine (HR.out _).mono ?_
  rintro e w1 ⟨rfl, hb1⟩
  have hbel1 := bl2 hB hb1
  have k3 := (HK.out.kept hb1).c3
  clear hB hb1 HR HK
  go_wp2_with fail
  refine (HFB.out _).mono ?_
  rintro e w2 ⟨rfl, hw⟩
  subst hw
  go_wp2_with fail
  go_ret
  exact ⟨ret_str1 (by rw [ba_cat, ba_cat, HSL.out, HBL.out]; simp), hbel1⟩
set_option maxHeartbeats 4000000 in
theorem name_longP (n : Nat) (fa re : Bool) (sz : Int) (a : Option Addr) (len cap : Nat) (w : World) (hn : n < 2 ^ 29) :
    Calls Tryd.prog 43 #[frameV n true fa re sz a len cap] w fun e w' => e = .returned (.string ⟨((bitsHead n 29 29).take 11 ++ [49, 49] ++ (bitsHead n 29 29).drop 11 ++ [bitB re]).toArray⟩) ∧ Below w.heap.size w w' := by
  have hB := below_box w n true fa re sz a len cap
  have hK := FrAt.box w n true fa re sz a len cap
  unfold frameC at hB hK
  unfold frameV
  have hr := fun W => row_ok (n / 262144) 11 W (by omega) (by omega)
  have hr2 := fun W => row_ok (n % 262144) 18 W (by omega) (by omega)
  have e1 : (n : Int) / 262144 = ((n / 262144 : Nat) : Int) := by omega
  have e2 := and_low n hn
  rw [← e1] at hr
  rw [← e2] at hr2
  have hS := mk_list (bitsHead (n / 262144) 11 11)
  generalize ByteArray.mk (bitsHead (n / 262144) 11 11).toArray = S at *
  have hSs : S.size ≤ 11 := by rw [ba_size hS, bitsHead_length]; exact Nat.le_refl _
  have hS2 := mk_list (bitsHead (n % 262144) 18 18)
  generalize ByteArray.mk (bitsHead (n % 262144) 18 18).toArray = S2 at *
  have hSs2 : S2.size ≤ 18 := by rw [ba_size hS2, bitsHead_length]; exact Nat.le_refl _
  have hBs : (ByteArray.mk #[bitB re]).size = 1 := rfl
  have hbl : (ByteArray.mk #[bitB re]).data.toList = [bitB re] := rfl
  have hfb := fun W => frBit_any re W
  generalize ByteArray.mk #[bitB re] = B at *
  have hBm : B.size ≤ 1 := by omega
  rw [head_take] at hS
  rw [head_drop] at hS2
  have HSL := Hid.mk hS
  have HSL2 := Hid.mk hS2
  have HR := Hid.mk hr
  have HR2 := Hid.mk hr2
  have HBL := Hid.mk hbl
  have HFB := Hid.mk hfb
  have HK := Hid.mk hK
  clear hr hr2 hn hS hS2 hbl hfb hBs hK e1 e2
  go_enter Tryd.func43, Tryd.ntmps43
  go_wp2_with fail
  refine (HR.out _).mono ?_
  rintro e w1 ⟨rfl, hb1⟩
  have hbel1 := bl2 hB hb1
  have k0 := (HK.out.kept hb1).c0
  have HK1 := Hid.mk (HK.out.kept hb1)
  clear hB hb1 HR HK
  go_wp2_with fail
  refine (HR2.out _).mono ?_
  rintro e w2 ⟨rfl, hb2⟩
  have hbel2 := bl2 hbel1 hb2
  have k3 := (HK1.out.kept hb2).c3
  clear hbel1 hb2 HR2 HK1 k0
  go_wp2_with fail
  refine (HFB.out _).mono ?_
  rintro e w3 ⟨rfl, hw⟩
  subst hw
  go_wp2_with fail
  go_ret
  exact ⟨ret_str1 (by rw [ba_cat, ba_cat, ba_cat, HSL.out, HSL2.out, HBL.out]), hbel2⟩
theorem name_any (f : Fr) (a : Option Addr) (len cap : Nat) (w : World) (h0 : 0 ≤ f.id) (h1 : f.id ≤ topI f.lo) :
    Calls Tryd.prog 43 #[frameV f.id f.lo f.fa f.re f.sz a len cap] w fun e w' => e = .returned (.string ⟨(nameL f).toArray⟩) ∧ Below w.heap.size w w' := by
  obtain ⟨id, lo, fa, re, sz, dt⟩ := f
  obtain ⟨n, rfl⟩ : ∃ n : Nat, id = (n : Int) := ⟨id.toNat, by simp only at h0; omega⟩
  simp only at h0 h1 ⊢
  cases lo
  · exact name_shortP n fa re sz a len cap w (by simp [topI] at h1; omega)
  · exact name_longP n fa re sz a len cap w (by simp [topI] at h1; omega)

end Bw
end Go.Proofs.YthdffdobkampaaaDoor
