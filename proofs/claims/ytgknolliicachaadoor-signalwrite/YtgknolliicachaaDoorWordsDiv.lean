/- What omnibusbig's common and div answer of numbers below 2^62. -/
import Derived.Test.YtgknolliicachaaDoorWordsMore
import Derived.Deep.RegionHeld3
namespace Go.Proofs.YtgknolliicachaaDoor
open Go.ChangeShapes Go.WideShapes Go.ChangeAt Go.RowKit
namespace Ww
open Wm
theorem drBw1 (w : World) : Below w.heap.size w w.drew := ⟨rfl, rfl, rfl, Nat.le_refl _, fun _ _ => rfl⟩
theorem words_le (x : Nat) (w : World) (h : x ≤ 4611686018427387903) :
    Calls Tryd.prog 87 #[.int .u64 x] w fun e w' => ∃ v' ys, e = .returned v' ∧ IsW w' v' ys ∧ valW ys = x ∧ trimW ys ∧ ys.length ≤ 2 ∧ Below w.heap.size w w' := words_any x w (by omega)
set_option maxHeartbeats 8000000 in
set_option maxRecDepth 100000 in
theorem common_any (va vb : Value) (xs ys : List Nat) (w : World) (ha : IsW w va xs) (hb : IsW w vb ys) (hta : trimW xs) (htb : trimW ys) (hva : valW xs < 2 ^ 62) (hvb : valW ys < 2 ^ 62) (h0 : 0 < valW ys) :
    Calls Tryd.prog 92 #[va, vb] w fun e w' => ∃ v' zs, e = .returned v' ∧ IsW w' v' zs ∧ valW zs = Nat.gcd (valW xs) (valW ys) ∧ trimW zs ∧ zs.length ≤ 2 ∧ Below w.heap.size w w' := by
  have HPA := Hid.mk (plain_any va xs w ha hta hva)
  have HPB := Hid.mk (plain_any vb ys w hb htb hvb)
  have hla := len_two hta hva
  have hlb := len_two htb hvb
  have hlb0 : 0 < ys.length := by
    rcases Nat.eq_zero_or_pos ys.length with h | h
    · have : ys = [] := List.eq_nil_of_length_eq_zero h
      subst this
      simp [valW] at h0
    · exact h
  obtain ⟨a, ca, rfl, -, -, -, -, -⟩ := ha
  obtain ⟨b, cb, rfl, -, -, -, -, -⟩ := hb
  obtain ⟨nA, hnA⟩ : ∃ n, n = xs.length := ⟨_, rfl⟩
  obtain ⟨nB, hnB⟩ : ∃ n, n = ys.length := ⟨_, rfl⟩
  rw [← hnA] at hla HPA ⊢
  rw [← hnB] at hlb hlb0 HPB ⊢
  have hla' : (nA : Int) ≤ 2 := by omega
  have hlb' : (nB : Int) ≤ 2 := by omega
  have hne : ((nB : Int) == 0) = false := by simp; omega
  obtain ⟨X, hX⟩ : ∃ X, X = valW xs := ⟨_, rfl⟩
  obtain ⟨Y, hY⟩ : ∃ Y, Y = valW ys := ⟨_, rfl⟩
  rw [← hX] at hva HPA ⊢
  rw [← hY] at hvb h0 HPB ⊢
  have hXi : (X : Int) ≤ 4611686018427387903 := by omega
  have hYi : (Y : Int) ≤ 4611686018427387903 := by omega
  clear hta htb hX hY hnA hnB hla hlb hva hvb
  go_enter Tryd.func92, Tryd.ntmps92
  go_wp2_with fail
  go_loopw [0, 1] (fun u v wr => u = .slice a nA ca ∧ v = .slice b nB cb ∧ wr = w) (fun _ _ _ => 0)
  case atStart => exact ⟨rfl, rfl, rfl⟩
  case round =>
    obtain ⟨rfl, rfl, rfl⟩ := hrel
    go_wp2_with fail
    refine HPA.out.mono ?_
    rintro e w1 ⟨rfl, hw1⟩
    obtain rfl := hw1.symm
    go_wp2_with fail
    refine HPB.out.mono ?_
    rintro e w1 ⟨rfl, hw1⟩
    obtain rfl := hw1.symm
    clear HPA HPB
    obtain ⟨wz, hwz⟩ : ∃ wz, wz = wr := ⟨_, rfl⟩
    rw [← hwz]
    have HWZ := Hid.mk hwz
    clear hwz
    go_wp2_with fail
    go_loopw [9, 10] (fun p q wr => ∃ x y : Nat, p = .int .u64 (x : Int) ∧ q = .int .u64 (y : Int) ∧ x ≤ 4611686018427387903 ∧ y ≤ 4611686018427387903 ∧ Hid (Nat.gcd x y = Nat.gcd X Y) ∧ Hid (Below wz.heap.size wz wr)) (fun _ q _ => (intOf q).toNat)
    case atStart => exact ⟨X, Y, rfl, rfl, by omega, by omega, Hid.mk rfl, Hid.mk (Below.refl _ _)⟩
    case round =>
      obtain ⟨x, y, rfl, rfl, hx, hy, HXY, HB⟩ := hrel
      by_cases hy0 : y = 0
      · subst hy0
        have hxG : x = Nat.gcd X Y := by have := HXY.out; rwa [Nat.gcd_zero_right] at this
        have HW := Hid.mk (words_le x)
        have HXG := Hid.mk hxG
        have hx' : (x : Int) ≤ 4611686018427387903 := by omega
        clear hxG
        go_wp2_with fail
        refine (HW.out _ (by omega)).mono ?_
        rintro e w2 ⟨v', zs, rfl, hz1, hz2, hz3, hz4, hb2⟩
        have HZ1 := Hid.mk hz1
        have HZ2 := Hid.mk hz2
        have HZ3 := Hid.mk hz3
        clear hz1 hz2 hz3
        go_wp2_with fail
        go_ret
        exact ⟨_, zs, rfl, HZ1.out, by rw [HZ2.out]; exact HXG.out, HZ3.out, hz4, by have h1 := Bw.bl2 HB.out hb2; rw [HWZ.out] at h1; exact h1⟩
      · have hy1 : (0 : Int) < (y : Int) := by omega
        have hye : ¬ (y : Int) = 0 := by omega
        have hx' : (x : Int) ≤ 4611686018427387903 := by omega
        have hy' : (y : Int) ≤ 4611686018427387903 := by omega
        have hst : Nat.gcd y (x % y) = Nat.gcd x y := by rw [Nat.gcd_comm, ← Nat.gcd_rec, Nat.gcd_comm]
        rw [HXY.out] at hst
        have HST := Hid.mk hst
        have hlt : x % y < y := Nat.mod_lt _ (by omega)
        have HLT := Hid.mk hlt
        clear hst hlt
        go_wp2_with fail
        go_quiet (fail)
        go_wp2_with fail
        go_roundw
        case rel => exact ⟨y, x % y, rfl, by go_num, by omega, by have := HLT.out; omega, HST, Hid.mk (Bw.bl2 HB.out (drBw wr _))⟩
        case measure => simp only [intOf]; have := HLT.out; omega
set_option maxHeartbeats 8000000 in
set_option maxRecDepth 100000 in
theorem div_any (va vb : Value) (xs ys : List Nat) (w : World) (ha : IsW w va xs) (hb : IsW w vb ys) (hta : trimW xs) (htb : trimW ys) (hva : valW xs < 2 ^ 62) (hvb : valW ys < 2 ^ 62) (h0 : 0 < valW ys) (hle : valW ys ≤ valW xs) :
    Calls Tryd.prog 93 #[va, vb] w fun e w' => ∃ v1 v2 zs, e = .returned (.tuple #[v1, v2]) ∧ IsW w' v1 zs ∧ valW zs = valW xs / valW ys ∧ trimW zs ∧ Below w.heap.size w w' := by
  have HC := Hid.mk (cmp_any va vb xs ys w ha hb hta htb (by have := len_two hta hva; omega) (by have := len_two htb hvb; omega))
  have HPA := Hid.mk (fun W (h : Below w.heap.size w W) => plain_any va xs W (ha.below h) hta hva)
  have HPB := Hid.mk (fun W (h : Below w.heap.size w W) => plain_any vb ys W (hb.below h) htb hvb)
  have hla := len_two hta hva
  have hlb := len_two htb hvb
  have hlb0 : 0 < ys.length := by
    rcases Nat.eq_zero_or_pos ys.length with h | h
    · have : ys = [] := List.eq_nil_of_length_eq_zero h
      subst this
      simp [valW] at h0
    · exact h
  obtain ⟨a, ca, rfl, -, -, -, -, -⟩ := ha
  obtain ⟨b, cb, rfl, -, -, -, -, -⟩ := hb
  obtain ⟨nA, hnA⟩ : ∃ n, n = xs.length := ⟨_, rfl⟩
  obtain ⟨nB, hnB⟩ : ∃ n, n = ys.length := ⟨_, rfl⟩
  rw [← hnA] at hla HPA HC ⊢
  rw [← hnB] at hlb hlb0 HPB HC ⊢
  have hla' : (nA : Int) ≤ 2 := by omega
  have hne : ((nB : Int) == 0) = false := by simp; omega
  obtain ⟨X, hX⟩ : ∃ X, X = valW xs := ⟨_, rfl⟩
  obtain ⟨Y, hY⟩ : ∃ Y, Y = valW ys := ⟨_, rfl⟩
  rw [← hX] at hva HPA HC hle ⊢
  rw [← hY] at hvb h0 HPB HC hle ⊢
  have hXi : (X : Int) ≤ 4611686018427387903 := by omega
  have hYi : (Y : Int) ≤ 4611686018427387903 := by omega
  have hcm : 0 ≤ cmpN X Y := by unfold cmpN; rw [if_neg (by omega)]; split <;> omega
  obtain ⟨C, hC⟩ : ∃ C, C = cmpN X Y := ⟨_, rfl⟩
  rw [← hC] at hcm HC
  have hqd : X / Y ≤ X := Nat.div_le_self _ _
  have hrm : X % Y ≤ X := Nat.mod_le _ _
  have hW1 := fun W => words_le (X / Y) W (by omega)
  have hW2 := fun W => words_le (X % Y) W (by omega)
  obtain ⟨XI, hXI⟩ : ∃ XI : Int, XI = (X : Int) := ⟨_, rfl⟩
  obtain ⟨YI, hYI⟩ : ∃ YI : Int, YI = (Y : Int) := ⟨_, rfl⟩
  obtain ⟨QI, hQI⟩ : ∃ QI : Int, QI = ((X / Y : Nat) : Int) := ⟨_, rfl⟩
  obtain ⟨RI, hRI⟩ : ∃ RI : Int, RI = ((X % Y : Nat) : Int) := ⟨_, rfl⟩
  rw [← hQI] at hW1
  rw [← hRI] at hW2
  rw [← hXI] at HPA
  rw [← hYI] at HPB
  have q1 : IntKind.u64.wrap (XI.tdiv YI) = QI := by
    have e : (X : Int).tdiv (Y : Int) = ((X / Y : Nat) : Int) := rfl
    rw [hXI, hYI, hQI, e, IntKind.wrap_u64]
    generalize X / Y = D at hqd ⊢
    omega
  have q2 : XI.tmod YI = RI := by
    rw [hXI, hYI, hRI]
    rfl
  have hYn : ¬ YI = 0 := by omega
  have HW1 := Hid.mk hW1
  have HW2 := Hid.mk hW2
  clear hW1 hW2 hXI hYI hQI hRI hXi hYi h0
  clear hta htb hX hY hnA hnB hla hlb hva hvb hC hqd hrm hle
  go_enter Tryd.func93, Tryd.ntmps93
  go_wp2_with fail
  refine HC.out.mono ?_
  rintro e w1 ⟨rfl, hb1⟩
  have HB1 := Hid.mk hb1
  clear hb1
  go_wp2_with fail
  refine (HPA.out _ HB1.out).mono ?_
  rintro e w2 ⟨rfl, hw2⟩
  obtain rfl := hw2.symm
  go_wp2_with fail
  refine (HPB.out _ HB1.out).mono ?_
  rintro e w2 ⟨rfl, hw2⟩
  obtain rfl := hw2.symm
  clear HPA HPB HC
  go_wp2_with fail
  go_region_held3 (fun _ => True) (trivial) (first
    | (go_at_call 87; refine (HW1.out _).mono ?_; rintro e w3 ⟨v1, zs, rfl, hz1, hz2, hz3, hz4, hb3⟩; have HZ1 := Hid.mk hz1; have HZ2 := Hid.mk hz2; have HZ3 := Hid.mk hz3; have HB3 := Hid.mk hb3; clear hz1 hz2 hz3 hz4 hb3 HW1)
    | (go_at_call 87; refine (HW2.out _).mono ?_; rintro e w4 ⟨v2, zs2, rfl, -, -, -, -, hb4⟩; have HB4 := Hid.mk hb4; clear hb4))
  go_wp2_with fail
  go_ret2
  exact ⟨_, _, zs, rfl, IsW.below HZ1.out HB4.out, HZ2.out, HZ3.out, Bw.bl2 HB1.out (Bw.bl2 (drBw1 w1) (Bw.bl2 HB3.out HB4.out))⟩
end Ww
end Go.Proofs.YtgknolliicachaaDoor
