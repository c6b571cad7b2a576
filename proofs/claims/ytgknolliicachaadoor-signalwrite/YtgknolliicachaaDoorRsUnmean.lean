/- What the document's own Unmean answers. -/
import Derived.Test.YtgknolliicachaaDoorBigRmore
import Derived.Test.YtgknolliicachaaDoorSgRaw
import Derived.Test.YtgknolliicachaaDoorSgRead
import Derived.Test.YtgknolliicachaaDoorBigRmq
import Derived.Test.YtgknolliicachaaDoorBigNormA
import Derived.Test.YtgknolliicachaaDoorBigShiftA
namespace Go.Proofs.YtgknolliicachaaDoor
open Go.ChangeShapes Go.WideShapes Go.ChangeAt Go.RowKit Go.Sort
namespace Bw
open Sm Ww
theorem numL_le {n d : Int} : (numL n d).natAbs ≤ n.natAbs := by
  rw [numL_abs]
  exact Nat.div_le_self _ _
theorem denL_le' {n d : Int} (hd : 0 < d) : denL n d ≤ d := by
  have h1 := denL_abs n d
  have h2 := Nat.div_le_self d.natAbs (Int.gcd n d)
  have := denL_pos (n := n) hd
  omega
theorem low_sub (p q a : Int) (hq : 0 < q) : numL (numL p q * 1 + -(a * denL p q)) (denL p q * 1) = numL (p - a * q) q ∧ denL (numL p q * 1 + -(a * denL p q)) (denL p q * 1) = denL (p - a * q) q := by
  have hD := denL_pos (n := p) hq
  refine low_eq (by omega) hq ?_
  obtain ⟨h1, h2⟩ := @low_mul p q
  generalize numL p q = N at *
  generalize denL p q = D at *
  generalize (Int.gcd p q : Int) = G at *
  subst h1
  subst h2
  rw [Int.mul_one, Int.mul_one, ← Int.sub_eq_add_neg, Int.sub_mul, Int.sub_mul]
  congr 1 <;> ac_rfl
theorem low_times (p q a : Int) (hq : 0 < q) : numL (numL p q * a) (denL p q * 1) = numL (p * a) q ∧ denL (numL p q * a) (denL p q * 1) = denL (p * a) q := by
  have hD := denL_pos (n := p) hq
  refine low_eq (by omega) hq ?_
  obtain ⟨h1, h2⟩ := @low_mul p q
  generalize numL p q = N at *
  generalize denL p q = D at *
  generalize (Int.gcd p q : Int) = G at *
  subst h1
  subst h2
  rw [Int.mul_one]
  ac_rfl
theorem low_quo (p q a : Int) (hq : 0 < q) (ha : 0 < a) : numL (numL p q * 1) (denL p q * a) = numL p (q * a) ∧ denL (numL p q * 1) (denL p q * a) = denL p (q * a) := by
  have hD := denL_pos (n := p) hq
  refine low_eq (Int.mul_pos hD ha) (Int.mul_pos hq ha) ?_
  obtain ⟨h1, h2⟩ := @low_mul p q
  generalize numL p q = N at *
  generalize denL p q = D at *
  generalize (Int.gcd p q : Int) = G at *
  subst h1
  subst h2
  rw [Int.mul_one]
  ac_rfl
theorem low_quoN (p q a : Int) (hq : 0 < q) (ha : a < 0) : numL (-(numL p q * 1)) (-(denL p q * a)) = numL (-p) (-(q * a)) ∧ denL (-(numL p q * 1)) (-(denL p q * a)) = denL (-p) (-(q * a)) := by
  have hD := denL_pos (n := p) hq
  have e1 := Int.mul_neg_of_pos_of_neg hD ha
  have e2 := Int.mul_neg_of_pos_of_neg hq ha
  refine low_eq (by omega) (by omega) ?_
  obtain ⟨h1, h2⟩ := @low_mul p q
  generalize numL p q = N at *
  generalize denL p q = D at *
  generalize (Int.gcd p q : Int) = G at *
  subst h1
  subst h2
  rw [Int.mul_one, Int.neg_mul_neg, Int.neg_mul_neg]
  ac_rfl
/-- a fraction whose lower part is 1 is its whole -/
theorem low_int {n d : Int} (hd : 0 < d) (h : denL n d = 1) : n.tdiv d = numL n d ∧ n.tmod d = 0 := by
  obtain ⟨h1, h2⟩ := @low_mul n d
  rw [h, Int.mul_one] at h2
  rw [← h2] at h1
  have e : n = numL n d * d := by rw [Int.mul_comm]; exact h1
  clear h1 h2
  generalize numL n d = N at *
  subst e
  exact ⟨Int.mul_tdiv_cancel _ (by omega), Int.mul_tmod_left _ _⟩
theorem low_not {n d : Int} (hd : 0 < d) (h : denL n d ≠ 1) : n.tmod d ≠ 0 := fun e => h ((low_whole hd).2 (Int.dvd_of_tmod_eq_zero e))
/-- what is left of it, whichever sign the divisor bears -/
theorem quo_int {n d N D : Int} (h : (0 < d ∧ N = numL n d ∧ D = denL n d) ∨ (d < 0 ∧ N = numL (-n) (-d) ∧ D = denL (-n) (-d))) : 0 < D ∧ (D = 1 → n.tdiv d = N ∧ n.tmod d = 0) ∧ (D ≠ 1 → n.tmod d ≠ 0) ∧ N.natAbs ≤ n.natAbs ∧ D ≤ d.natAbs := by
  rcases h with ⟨hd, rfl, rfl⟩ | ⟨hd, rfl, rfl⟩
  · refine ⟨denL_pos hd, low_int hd, low_not hd, numL_le, ?_⟩
    have := denL_le' (n := n) hd
    omega
  · have hd' : 0 < -d := by omega
    refine ⟨denL_pos hd', fun h => ?_, fun h => ?_, ?_, ?_⟩
    · have := low_int hd' h
      rw [Int.neg_tdiv_neg, Int.tmod_neg, Int.neg_tmod] at this
      exact ⟨this.1, by omega⟩
    · have := low_not hd' h
      rw [Int.tmod_neg, Int.neg_tmod] at this
      omega
    · have := @numL_le (-n) (-d)
      omega
    · have := denL_le' (n := -n) hd'
      omega
end Bw
end Go.Proofs.YtgknolliicachaaDoor
namespace Go.Proofs.YtgknolliicachaaDoor
open Go.ChangeShapes Go.WideShapes Go.ChangeAt Go.RowKit Go.Sort
namespace Bw
open Sm Ww Wm
open Oi (ptr Box)
def IntAt (W : World) (g : Nat) (r : Int) : Prop := ZAt W g 0 r ∧ ∃ cs, BlkAt W g cs 68 ∧ IntV cs
theorem IntAt.kept {W W' : World} {g : Nat} {r : Int} (h : IntAt W g r) (hb : Below W.heap.size W W') : IntAt W' g r := by
  obtain ⟨h1, cs, h2, h3⟩ := h
  exact ⟨h1.kept hb, cs, h2.kept hb, h3⟩
theorem IntAt.tch {W W' : World} {g k : Nat} {r : Int} {cs : List Value} {T : TypeId} (h : IntAt W g r) (hb : BlkAt W k cs T) (hn : NoW cs) (ht : Tch [k] W W') (hne : g ≠ k) : IntAt W' g r := by
  obtain ⟨h1, cs', h2, h3⟩ := h
  exact ⟨h1.tch hb hn ht hne, cs', h2.tch ht (by simpa using hne), h3⟩
structure UnI (sz : Nat) (w0 W : World) (b0 b1 b2 b4 b5 b6 b7 b8 : Bool) (g0 gA g1 : Nat) (v53 v54 v55 v57 v58 v59 v9 v10 : Value) : Prop where
  below : Below w0.heap.size w0 W
  z0 : b0 = true → v53 = ptr g0 0 ∧ IntAt W g0 0 ∧ w0.heap.size ≤ g0
  box : Box b1 b6 (2 ^ sz) w0.heap.size W gA v54
  z1 : b2 = true → v55 = ptr g1 0 ∧ IntAt W g1 1
  l4 : b4 = true → v57 = .int .i64 (sz : Int)
  c5 : b5 = true → v58 = .int .u64 (sz : Int)
  s59 : b6 = true → v59 = ptr gA 0
  a9 : b7 = true → v9 = ptr g0 0
  a10 : b8 = true → v10 = ptr gA 0
  d0 : b0 = true → b1 = true → g0 ≠ gA
  d1 : b2 = true → b1 = true → g1 ≠ gA
  o6 : b6 = true → b1 = true
  o7 : b7 = true → b0 = true
  o8 : b8 = true → b6 = true
namespace UnI
variable {sz : Nat} {w0 W : World} {b0 b1 b2 b4 b5 b6 b7 b8 : Bool} {g0 gA g1 : Nat} {v53 v54 v55 v57 v58 v59 v9 v10 : Value}
theorem IntAt_lt {W : World} {g : Nat} {r : Int} (h : IntAt W g r) : g < W.heap.size := h.1.lt
theorem new0 (h : UnI sz w0 W b0 b1 b2 b4 b5 b6 b7 b8 g0 gA g1 v53 v54 v55 v57 v58 v59 v9 v10) (hb : b0 = false) : Calls Tryd.prog 50 #[.int .i64 0] W fun e W2 => e = .returned (.pointer (some ⟨W.heap.size, 0, none⟩)) ∧ UnI sz w0 W2 true b1 b2 b4 b5 b6 b7 b8 W.heap.size gA g1 (ptr W.heap.size 0) v54 v55 v57 v58 v59 v9 v10 := by
  have hb0 := hb
  clear hb
  refine (newInt_z 0 W (by omega) (by omega)).mono ?_
  rintro e W2 ⟨rfl, hz, hc, hb⟩
  exact ⟨rfl, { below := bl2 h.below hb, z0 := fun _ => ⟨rfl, ⟨hz, hc⟩, h.below.size⟩, box := h.box.kept hb, z1 := fun e => ⟨(h.z1 e).1, (h.z1 e).2.kept hb⟩, l4 := h.l4, c5 := h.c5, s59 := h.s59, a9 := fun e => absurd (h.o7 e) (by rw [hb0]; simp), a10 := h.a10, d0 := fun _ e => fun x => absurd (h.box.lt e) (by omega), d1 := h.d1, o6 := h.o6, o7 := fun _ => rfl, o8 := h.o8 }⟩
theorem new2 (h : UnI sz w0 W b0 b1 b2 b4 b5 b6 b7 b8 g0 gA g1 v53 v54 v55 v57 v58 v59 v9 v10) : Calls Tryd.prog 50 #[.int .i64 1] W fun e W2 => e = .returned (.pointer (some ⟨W.heap.size, 0, none⟩)) ∧ UnI sz w0 W2 b0 b1 true b4 b5 b6 b7 b8 g0 gA W.heap.size v53 v54 (ptr W.heap.size 0) v57 v58 v59 v9 v10 := by
  refine (newInt_z 1 W (by omega) (by omega)).mono ?_
  rintro e W2 ⟨rfl, hz, hc, hb⟩
  exact ⟨rfl, { below := bl2 h.below hb, z0 := fun e => ⟨(h.z0 e).1, (h.z0 e).2.1.kept hb, (h.z0 e).2.2⟩, box := h.box.kept hb, z1 := fun _ => ⟨rfl, ⟨hz, hc⟩⟩, l4 := h.l4, c5 := h.c5, s59 := h.s59, a9 := h.a9, a10 := h.a10, d0 := h.d0, d1 := fun _ e => fun x => absurd (h.box.lt e) (by omega), o6 := h.o6, o7 := h.o7, o8 := h.o8 }⟩
theorem new1 (h : UnI sz w0 W b0 b1 b2 b4 b5 b6 b7 b8 g0 gA g1 v53 v54 v55 v57 v58 v59 v9 v10) (hb : b1 = false) : UnI sz w0 (W.alloc (.cells #[.bool false, .slice none 0 0] 68)) b0 true b2 b4 b5 b6 b7 b8 g0 W.heap.size g1 v53 (ptr W.heap.size 0) v55 v57 v58 v59 v9 v10 :=
  { below := h.below.alloc h.below.size _, z0 := fun e => ⟨(h.z0 e).1, (h.z0 e).2.1.kept (zvB W), (h.z0 e).2.2⟩, box := Box.fresh h.below.size h.o6 hb, z1 := fun e => ⟨(h.z1 e).1, (h.z1 e).2.kept (zvB W)⟩, l4 := h.l4, c5 := h.c5, s59 := fun e => absurd (h.o6 e) (by rw [hb]; simp), a9 := h.a9, a10 := fun e => absurd (h.o6 (h.o8 e)) (by rw [hb]; simp), d0 := fun e _ => fun x => absurd (IntAt_lt (h.z0 e).2.1) (by omega), d1 := fun e _ => fun x => absurd (IntAt_lt (h.z1 e).2) (by omega), o6 := fun _ => rfl, o7 := h.o7, o8 := h.o8 }
theorem lsh6 (h : UnI sz w0 W b0 b1 b2 b4 b5 b6 b7 b8 g0 gA g1 v53 v54 v55 v57 v58 v59 v9 v10) (hn : sz ≤ 40) (e1 : b1 = true) (e2 : b2 = true) (e5 : b5 = true) :
    v54 = ptr gA 0 ∧ v55 = ptr g1 0 ∧ v58 = .int .u64 (sz : Int) ∧ Calls Tryd.prog 51 #[.pointer (some ⟨gA, 0, none⟩), .pointer (some ⟨g1, 0, none⟩), .int .u64 (sz : Int)] W fun e W2 => e = .returned (.pointer (some ⟨gA, 0, none⟩)) ∧ UnI sz w0 W2 b0 b1 b2 b4 b5 true b7 b8 g0 gA g1 v53 v54 v55 v57 v58 (ptr gA 0) v9 v10 := by
  obtain ⟨q1, q2, ⟨cs, hB, hi⟩, _⟩ := h.box e1
  refine ⟨q1, (h.z1 e2).1, h.c5 e5, (ilsh_z gA cs _ g1 sz W (h.z1 e2).2.1 hB hi hn).mono ?_⟩
  rintro e W2 ⟨rfl, hO⟩
  exact ⟨rfl, { below := hO.below h.below q2, z0 := fun e => ⟨(h.z0 e).1, (h.z0 e).2.1.tch hB hi.noW hO.1 (h.d0 e e1), (h.z0 e).2.2⟩, box := fun _ => ⟨q1, q2, (hO.int hi).2, fun _ => (hO.int hi).1⟩, z1 := fun e => ⟨(h.z1 e).1, (h.z1 e).2.tch hB hi.noW hO.1 (h.d1 e e1)⟩, l4 := h.l4, c5 := h.c5, s59 := fun _ => rfl, a9 := h.a9, a10 := h.a10, d0 := h.d0, d1 := h.d1, o6 := fun _ => e1, o7 := h.o7, o8 := fun _ => rfl }⟩
theorem load4 (h : UnI sz w0 W b0 b1 b2 b4 b5 b6 b7 b8 g0 gA g1 v53 v54 v55 v57 v58 v59 v9 v10) : UnI sz w0 W b0 b1 b2 true b5 b6 b7 b8 g0 gA g1 v53 v54 v55 (.int .i64 (sz : Int)) v58 v59 v9 v10 := { below := h.below, z0 := h.z0, box := h.box, z1 := h.z1, l4 := fun _ => rfl, c5 := h.c5, s59 := h.s59, a9 := h.a9, a10 := h.a10, d0 := h.d0, d1 := h.d1, o6 := h.o6, o7 := h.o7, o8 := h.o8 }
theorem conv5 (h : UnI sz w0 W b0 b1 b2 b4 b5 b6 b7 b8 g0 gA g1 v53 v54 v55 v57 v58 v59 v9 v10) : UnI sz w0 W b0 b1 b2 b4 true b6 b7 b8 g0 gA g1 v53 v54 v55 v57 (.int .u64 (sz : Int)) v59 v9 v10 := { below := h.below, z0 := h.z0, box := h.box, z1 := h.z1, l4 := h.l4, c5 := fun _ => rfl, s59 := h.s59, a9 := h.a9, a10 := h.a10, d0 := h.d0, d1 := h.d1, o6 := h.o6, o7 := h.o7, o8 := h.o8 }
theorem set7 (h : UnI sz w0 W b0 b1 b2 b4 b5 b6 b7 b8 g0 gA g1 v53 v54 v55 v57 v58 v59 v9 v10) (e : b0 = true) : UnI sz w0 W b0 b1 b2 b4 b5 b6 true b8 g0 gA g1 v53 v54 v55 v57 v58 v59 v53 v10 := { below := h.below, z0 := h.z0, box := h.box, z1 := h.z1, l4 := h.l4, c5 := h.c5, s59 := h.s59, a9 := fun _ => (h.z0 e).1, a10 := h.a10, d0 := h.d0, d1 := h.d1, o6 := h.o6, o7 := fun _ => e, o8 := h.o8 }
theorem set8 (h : UnI sz w0 W b0 b1 b2 b4 b5 b6 b7 b8 g0 gA g1 v53 v54 v55 v57 v58 v59 v9 v10) (e : b6 = true) : UnI sz w0 W b0 b1 b2 b4 b5 b6 b7 true g0 gA g1 v53 v54 v55 v57 v58 v59 v9 v59 := { below := h.below, z0 := h.z0, box := h.box, z1 := h.z1, l4 := h.l4, c5 := h.c5, s59 := h.s59, a9 := h.a9, a10 := fun _ => h.s59 e, d0 := h.d0, d1 := h.d1, o6 := h.o6, o7 := h.o7, o8 := fun _ => e }
end UnI
theorem quo_set (p q a : Int) (hq : 0 < q) (ha : a ≠ 0) (h1 : -4611686018427387903 ≤ p) (h2 : p ≤ 4611686018427387903) (h3 : q ≤ 1000000) (h4 : -1000000 ≤ a) (h5 : a ≤ 1000000) :
    ∃ N D, ((0 < q * a ∧ N = numL p (q * a) ∧ D = denL p (q * a)) ∨ (q * a < 0 ∧ N = numL (-p) (-(q * a)) ∧ D = denL (-p) (-(q * a)))) ∧
      ∀ (W : World) (gz gA gB : Nat) (cs : List Value), BlkAt W gz cs 70 → RatV cs → ZAt W gA 0 (numL p q * 1) → ZAt W gB 0 (denL p q * a) → Calls Tryd.prog 65 #[.pointer (some ⟨gz, 0, none⟩), .pointer (some ⟨gA, 0, none⟩), .pointer (some ⟨gB, 0, none⟩)] W fun e w' => e = .returned (.pointer (some ⟨gz, 0, none⟩)) ∧ RatAt w' gz N D ∧ Tch [gz] W w' := by
  have hD := denL_pos (n := p) hq
  have hDl := denL_le' (n := p) hq
  have hNl := @numL_le p q
  have hb := mul_bound (a := denL p q) (b := a) (A := 1000000) (B := 1000000) (by omega) (by omega) (by omega) (by omega)
  rcases Int.lt_or_lt_of_ne ha with ha' | ha'
  · have e1 := Int.mul_neg_of_pos_of_neg hD ha'
    have e2 := Int.mul_neg_of_pos_of_neg hq ha'
    refine ⟨_, _, .inr ⟨e2, rfl, rfl⟩, fun W gz gA gB cs k1 k2 k3 k4 => ?_⟩
    have := setFrac_neg gz cs gA 0 gB 0 (numL p q * 1) (denL p q * a) W k1 k2 k3 k4 e1 (by omega) (by omega) (by omega)
    rw [(low_quoN p q a hq ha').1, (low_quoN p q a hq ha').2] at this
    exact this
  · have e1 := Int.mul_pos hD ha'
    have e2 := Int.mul_pos hq ha'
    refine ⟨_, _, .inl ⟨e2, rfl, rfl⟩, fun W gz gA gB cs k1 k2 k3 k4 => ?_⟩
    have := setFrac_pos gz cs gA 0 gB 0 (numL p q * 1) (denL p q * a) W k1 k2 k3 k4 e1 (by omega) (by omega) (by omega)
    rw [(low_quo p q a hq ha').1, (low_quo p q a hq ha').2] at this
    exact this
set_option maxHeartbeats 4000000 in
set_option maxRecDepth 100000 in
theorem unmean_bad (s : Sig) (num den : Int) (w : World) (hf : fracB num den = false) :
    Calls Tryd.prog 23 #[sgV s, .int .i64 num, .int .i64 den] w fun e w' => e = .returned (.tuple #[.int .i64 0, .int .i64 3]) ∧ Below w.heap.size w w' := by
  have HB := Hid.mk (sg_box w s)
  have hc : den < 1 ∨ (¬ den < 1 ∧ 1000000 < den) ∨ (¬ den < 1 ∧ ¬ 1000000 < den ∧ 1099511627776 < num) ∨ (¬ den < 1 ∧ ¬ 1000000 < den ∧ ¬ 1099511627776 < num ∧ num < -1099511627776) := by
    by_cases k1 : den < 1
    · exact .inl k1
    · by_cases k2 : 1000000 < den
      · exact .inr (.inl ⟨k1, k2⟩)
      · by_cases k3 : 1099511627776 < num
        · exact .inr (.inr (.inl ⟨k1, k2, k3⟩))
        · refine .inr (.inr (.inr ⟨k1, k2, k3, ?_⟩))
          rcases Int.lt_or_le num (-1099511627776) with k4 | k4
          · exact k4
          · unfold fracB at hf
            rw [inB_yes ⟨by omega, by omega⟩, inB_yes ⟨by omega, by omega⟩] at hf
            cases hf
  clear hf
  obtain ⟨nm, sta, sza, bk, sg, mu, di, ad, ky⟩ := s
  unfold sgC at HB
  unfold sgV
  simp only at HB ⊢
  rcases hc with k1 | ⟨k1, k2⟩ | ⟨k1, k2, k3⟩ | ⟨k1, k2, k3, k4⟩
  all_goals
    go_enter Tryd.func23, Tryd.ntmps23
    go_wp2_with fail
    go_ret2
    exact ⟨rfl, HB.out⟩
end Bw
end Go.Proofs.YtgknolliicachaaDoor
namespace Go.Proofs.YtgknolliicachaaDoor
open Go.ChangeShapes Go.WideShapes Go.ChangeAt Go.RowKit Go.Sort
namespace Bw
open Sm Ww Wm
open Oi (ptr Box)
theorem cmpI_lt {x y : Int} (h : x < y) : cmpI x y = -1 := by unfold cmpI; rw [if_pos h]
theorem cmpI_ge {x y : Int} (h : ¬ x < y) : 0 ≤ cmpI x y ∧ cmpI x y ≤ 1 := by
  unfold cmpI
  rw [if_neg h]
  split <;> omega
set_option maxHeartbeats 16000000 in
set_option maxRecDepth 100000 in
theorem unmean_ok (s : Sig) (st sz n : Nat) (num den : Int) (w : World) (hR : Rt s st sz n) (hf : fracB num den = true) :
    Calls Tryd.prog 23 #[sgV s, .int .i64 num, .int .i64 den] w fun e w' => e = .returned (.tuple #[.int .i64 (if rawE s sz num den = 0 then rawV s num den else 0), .int .i64 (rawE s sz num den)]) ∧ Below w.heap.size w w' := by
  have HB := Hid.mk (sg_box w s)
  have HG := Hid.mk (SgAt.box w s)
  obtain ⟨⟨wa1, wa2⟩, ⟨wb1, wb2⟩, ⟨wp1, wp2⟩, wp0⟩ := whole_bound hR hf
  have hfb : (1 ≤ den ∧ den ≤ 1000000) ∧ (-1099511627776 ≤ num ∧ num ≤ 1099511627776) := by
    unfold fracB at hf
    simp only [Bool.and_eq_true, inB_iff] at hf
    exact hf
  have hdi1 := hR.di1
  have hdi2 := hR.di2
  have had1 := hR.ad1
  have had2 := hR.ad2
  have hmu0 := hR.mu0
  have hmu1 := hR.mu1
  have hmu2 := hR.mu2
  have hs1 := hR.s1
  have hs40 := hR.s40
  have hsz := hR.hsz
  have hq : 0 < den := by omega
  obtain ⟨N4, D4, hcase, hQS⟩ := quo_set (wholeI s num den) den s.mu hq hmu0 (by omega) (by omega) (by omega) hmu1 hmu2
  have hint := quo_int hcase
  obtain ⟨E, hE⟩ : ∃ E, E = rawE s sz num den := ⟨_, rfl⟩
  obtain ⟨V, hV⟩ : ∃ V, V = if rawE s sz num den = 0 then rawV s num den else 0 := ⟨_, rfl⟩
  rw [← hV, ← hE]
  have hd1 : D4 ≠ 1 → E = 4 ∧ V = 0 := by
    intro h
    have e4 : rawE s sz num den = 4 := by unfold rawE partI; rw [if_neg (by rw [hf]; simp), if_pos (hint.2.2.1 h)]
    rw [hE, hV, e4]
    exact ⟨rfl, rfl⟩
  have hd2 : D4 = 1 → ((lowS s.sg sz ≤ N4 ∧ N4 ≤ highS s.sg sz) → E = 0 ∧ V = N4) ∧ (¬ (lowS s.sg sz ≤ N4 ∧ N4 ≤ highS s.sg sz) → E = 3 ∧ V = 0) := by
    intro h
    obtain ⟨t1, t2⟩ := hint.2.1 h
    have eV : rawV s num den = N4 := by unfold rawV partI; exact t1
    constructor
    · intro hin
      have e0 : rawE s sz num den = 0 := by unfold rawE partI; rw [if_neg (by rw [hf]; simp), if_neg (by rw [t2]; simp), t1, if_neg (by rw [inB_yes hin]; simp)]
      rw [hE, hV, e0, eV]
      exact ⟨rfl, rfl⟩
    · intro hin
      have e3 : rawE s sz num den = 3 := by unfold rawE partI; rw [if_neg (by rw [hf]; simp), if_neg (by rw [t2]; simp), t1, if_pos (inB_no hin)]
      rw [hE, hV, e3]
      exact ⟨rfl, rfl⟩
  obtain ⟨hD4, -, -, hN4, hD4b⟩ := hint
  clear hcase hE hV hf hR wp0
  unfold wholeI at hN4 hQS wb1 wb2
  unfold partI at wp1 wp2
  have hNb : (-4611686018427387903 ≤ N4 ∧ N4 ≤ 4611686018427387903) ∧ 0 < D4 ∧ D4 ≤ 4611686018427387903 := by omega
  have hn1 := @numL_le num den
  have hl1 := denL_le' (n := num) hq
  have hp1 := denL_pos (n := num) hq
  have hn2 := @numL_le (num - s.ad * den) den
  have hl2 := denL_le' (n := num - s.ad * den) hq
  have hp2 := denL_pos (n := num - s.ad * den) hq
  have hn3 := @numL_le ((num - s.ad * den) * s.di) den
  have hl3 := denL_le' (n := (num - s.ad * den) * s.di) hq
  have hp3 := denL_pos (n := (num - s.ad * den) * s.di) hq
  have hls := low_sub num den s.ad hq
  have hlt := low_times (num - s.ad * den) den s.di hq
  have hm1 := mul_bound (a := s.ad) (b := denL num den) (A := 1000000) (B := 1000000) (by omega) (by omega) (by omega) (by omega)
  have hm2 := mul_bound (a := numL (num - s.ad * den) den) (b := s.di) (A := 2199511627776) (B := 1000000) (by omega) (by omega) (by omega) (by omega)
  have HLS1 := Hid.mk hls.1
  have HLS2 := Hid.mk hls.2
  have HLT1 := Hid.mk hlt.1
  have HLT2 := Hid.mk hlt.2
  have HBS : Hid (BdSub (numL num den) (denL num den) s.ad 1) := Hid.mk ⟨by omega, by omega, hp1, by omega, by omega, by omega, by omega, by omega, by omega, by omega, by omega, by omega, by omega, by omega, by omega⟩
  have HBM : Hid (BdMul (numL (num - s.ad * den) den) (denL (num - s.ad * den) den) s.di 1) := Hid.mk ⟨by omega, by omega, hp2, by omega, by omega, by omega, by omega, by omega⟩
  have HBQ : Hid (BdQuo (numL ((num - s.ad * den) * s.di) den) (denL ((num - s.ad * den) * s.di) den) s.mu 1) := Hid.mk ⟨by omega, by omega, hp3, by omega, by omega, by omega, by omega, by omega⟩
  have HSM := Hid.mk (fun W g cs gA gB k1 k2 k3 k4 => setFrac_pos g cs gA 0 gB 0 (numL (num - s.ad * den) den * s.di) (denL (num - s.ad * den) den * 1) W k1 k2 k3 k4 (by omega) (by omega) (by omega) (by omega))
  have HSQ := Hid.mk hQS
  have HNB := Hid.mk hNb
  have HD1 := Hid.mk hd1
  have HD2 := Hid.mk hd2
  have HF := Hid.mk (fun W cs g h1 h2 => setFrac64_z g cs num den W h1 h2 hq (by omega) (by omega) (by omega))
  have HI := Hid.mk (fun x (b1 : -1000000 ≤ x) (b2 : x ≤ 1000000) W cs g h1 h2 => rset_z g cs x W h1 h2 (by omega) (by omega))
  obtain ⟨⟨f1, f2⟩, f3, f4⟩ := hfb
  have HAD := Hid.mk (And.intro had1 had2)
  have HDI := Hid.mk (show -1000000 ≤ s.di ∧ s.di ≤ 1000000 by omega)
  have HMU := Hid.mk (And.intro hmu1 hmu2)
  clear hn1 hl1 hp1 hn2 hl2 hp2 hn3 hl3 hp3 hls hlt hm1 hm2 hQS hNb hd1 hd2 hN4 hD4 hD4b wa1 wa2 wb1 wb2 wp1 wp2 hq hdi1 hdi2 had1 had2 hmu0 hmu1 hmu2
  obtain ⟨nm, sta, sza, bk, sg, mu, di, ad, ky⟩ := s
  simp only at hsz HLS1 HLS2 HLT1 HLT2 HBS HBM HBQ HSM HSQ HD2 HAD HDI HMU
  subst hsz
  unfold sgC at HB HG
  unfold sgV
  simp only at HB HG ⊢
  generalize numL ((num - ad * den) * di) den = N3 at *
  generalize denL ((num - ad * den) * di) den = D3 at *
  generalize numL (num - ad * den) den = N2 at *
  generalize denL (num - ad * den) den = D2 at *
  generalize numL num den = N1 at *
  generalize denL num den = D1 at *
  go_enter Tryd.func23, Tryd.ntmps23
  obtain ⟨w1, hw1⟩ : ∃ w1, w1 = w.alloc (.cells #[.string nm, .int .i64 sta, .int .i64 (sz : Int), .bool bk, .bool sg, .int .i64 mu, .int .i64 di, .int .i64 ad, .int .i64 ky] 23) := ⟨_, rfl⟩
  rw [← hw1] at HB HG
  have HS1 := Hid.mk (show w1.heap.size = w.heap.size + 1 by rw [hw1]; simp)
  go_wp2_with (rw [← hw1]; clear hw1)
  with_reducible refine (HF.out _ rzC w1.heap.size (rz_new w1) rz_rat).mono ?_
  rintro e w2 ⟨rfl, hR2, ht2⟩
  have hB2 := Tch.below (rzB w1) ht2 (by simp) (Nat.le_refl _)
  have HR2 := Hid.mk hR2
  have HB2 := Hid.mk hB2
  have HG2 := Hid.mk (HG.out.kept hB2)
  clear hR2 ht2 hB2 HF
  obtain ⟨c0, c1, c2, c3, c4, c5, c6, c7, c8⟩ := HG2.out.kept (rzB w2)
  simp only at c0 c1 c2 c3 c4 c5 c6 c7 c8
  go_wp2_with fail
  with_reducible refine (HI.out ad HAD.out.1 HAD.out.2 _ rzC w2.heap.size (rz_new w2) rz_rat).mono ?_
  rintro e w3 ⟨rfl, hR3, ht3⟩
  have hB3 := Tch.below (rzB w2) ht3 (by simp) (Nat.le_refl _)
  have hRr := HR2.out.kept hB3
  obtain ⟨cs, hcb, hcv⟩ := hRr.var
  have hA := rsub_z w1.heap.size w1.heap.size w2.heap.size cs N1 D1 ad 1 w3 hcb hcv hRr hR3 HBS.out
  rw [HLS1.out, HLS2.out] at hA
  clear hcb hcv
  have HA := Hid.mk hA
  have HB3 := Hid.mk (bl2 HB2.out hB3)
  clear c0 c1 c2 c3 c4 c5 c6 c7 c8 hR3 ht3 hB3 hRr hA
  go_wp2_with fail
  with_reducible refine HA.out.mono ?_
  rintro e w4 ⟨rfl, hR4, ht4⟩
  have hB4 := Tch.below HB3.out ht4 (by simp) (Nat.le_refl _)
  have HR4 := Hid.mk hR4
  have HB4 := Hid.mk hB4
  have HG4 := Hid.mk (HG.out.kept hB4)
  clear hR4 ht4 hB4 HA
  obtain ⟨c0, c1, c2, c3, c4, c5, c6, c7, c8⟩ := HG4.out.kept (rzB w4)
  simp only at c0 c1 c2 c3 c4 c5 c6 c7 c8
  go_wp2_with fail
  with_reducible refine (HI.out di HDI.out.1 HDI.out.2 _ rzC w4.heap.size (rz_new w4) rz_rat).mono ?_
  rintro e w5 ⟨rfl, hR3, ht3⟩
  have hB3 := Tch.below (rzB w4) ht3 (by simp) (Nat.le_refl _)
  have hRr := HR4.out.kept hB3
  have hA := rmul_z w1.heap.size w1.heap.size w4.heap.size N2 D2 di 1 N3 D3 w5 hRr hR3 HBM.out (fun W gA gB hb k3 k4 => by
    obtain ⟨cs, hcb, hcv⟩ := hRr.var
    have := HSM.out W w1.heap.size cs gA gB (hcb.kept hb) hcv k3 k4
    rw [HLT1.out, HLT2.out] at this
    exact this)
  have HA := Hid.mk hA
  have HB5 := Hid.mk (bl2 HB4.out hB3)
  clear c0 c1 c2 c3 c4 c5 c6 c7 c8 hR3 ht3 hB3 hRr hA
  go_wp2_with fail
  with_reducible refine HA.out.mono ?_
  rintro e w6 ⟨rfl, hR4, ht4⟩
  have hB4 := Tch.below HB5.out ht4 (by simp) (Nat.le_refl _)
  have HR6 := Hid.mk hR4
  have HB6 := Hid.mk hB4
  have HG6 := Hid.mk (HG.out.kept hB4)
  clear hR4 ht4 hB4 HA
  obtain ⟨c0, c1, c2, c3, c4, c5, c6, c7, c8⟩ := HG6.out.kept (rzB w6)
  simp only at c0 c1 c2 c3 c4 c5 c6 c7 c8
  go_wp2_with fail
  with_reducible refine (HI.out mu HMU.out.1 HMU.out.2 _ rzC w6.heap.size (rz_new w6) rz_rat).mono ?_
  rintro e w7 ⟨rfl, hR3, ht3⟩
  have hB3 := Tch.below (rzB w6) ht3 (by simp) (Nat.le_refl _)
  have hRr := HR6.out.kept hB3
  have hA := rquo_z w1.heap.size w1.heap.size w6.heap.size N3 D3 mu 1 N4 D4 w7 hRr hR3 HBQ.out (fun W gA gB hb k3 k4 => by
    obtain ⟨cs, hcb, hcv⟩ := hRr.var
    exact HSQ.out W w1.heap.size gA gB cs (hcb.kept hb) hcv k3 k4)
  have HA := Hid.mk hA
  have HB7 := Hid.mk (bl2 HB6.out hB3)
  clear c0 c1 c2 c3 c4 c5 c6 c7 c8 hR3 ht3 hB3 hRr hA
  go_wp2_with fail
  with_reducible refine HA.out.mono ?_
  rintro e w8 ⟨rfl, hR4, ht4⟩
  have hB4 := Tch.below HB7.out ht4 (by simp) (Nat.le_refl _)
  have HR8 := Hid.mk hR4
  have HB8 := Hid.mk hB4
  have HG8 := Hid.mk (HG.out.kept hB4)
  clear hR4 ht4 hB4 HA
  have HIS := Hid.mk (risint_z w1.heap.size N4 D4 w8 HR8.out HNB.out.2.1 HNB.out.2.2)
  by_cases hD : D4 = 1
  · have HE := Hid.mk (HD2.out hD)
    have hdd : decide (D4 = 1) = true := decide_eq_true hD
    rw [hdd] at HIS
    clear hD hdd HD1 HD2
    go_wp2_with fail
    with_reducible refine HIS.out.mono ?_
    rintro e w9 ⟨rfl, hb9⟩
    have HB9 := Hid.mk (bl2 HB8.out hb9)
    have HR9 := Hid.mk (HR8.out.kept hb9)
    have HG9 := Hid.mk (HG8.out.kept hb9)
    clear hb9 HB2 HB3 HB4 HB5 HB6 HB7 HB8 HR2 HR4 HR6 HR8 HG2 HG4 HG6 HG8 HIS HSM HSQ HBS HBM HBQ HLS1 HLS2 HLT1 HLT2 HI
    go_wp2_with fail
    have a1 : (1 : Int) ≤ (sz : Int) := by omega
    have a2 : (sz : Int) ≤ 40 := by omega
    refine wp_region_any (by kernel_rfl) ?_
    refine wpAny_take (i := 3) (v := .pointer (some ⟨w.heap.size, 2, none⟩)) rfl (by kernel_rfl) (by kernel_rfl) (by kernel_rfl) (fun _ _ _ h => h) (Or.inl ⟨by rfl, fun _ => by rfl⟩) ?_
    simp only [List.getElem_toArray, List.getElem_cons_zero, List.getElem_cons_succ, Act.put, List.setIfInBounds_toArray, List.set_cons_zero, List.set_cons_succ]
    refine Oi.wpAny_start (fun l a W => ∃ b0 b1 b2 b4 b5 b6 b7 b8 g0 gA g1 v53 v54 v55 v57 v58 v59 v9 v10, l = #[b0, b1, b2, true, b4, b5, b6, b7, b8] ∧ a = ⟨#[.agg #[.string nm, .int .i64 sta, .int .i64 (sz : Int), .bool bk, .bool sg, .int .i64 mu, .int .i64 di, .int .i64 ad, .int .i64 ky], .int .i64 num, .int .i64 den, .pointer (some ⟨w.heap.size, 0, none⟩), undef, undef, .int .i64 0, .int .i64 0, .pointer (some ⟨w1.heap.size, 0, none⟩), v9, v10, .int .i64 den, .bool (decide (den < 1)), .bool (decide (den < 1)), .int .i64 den, .bool (decide (1000000 < den)), .bool (decide (den < 1) || decide (1000000 < den)), .bool (decide (den < 1) || decide (1000000 < den)), .int .i64 num, .bool (decide (1099511627776 < num)), .bool (decide (den < 1) || decide (1000000 < den) || decide (1099511627776 < num)), .bool (decide (den < 1) || decide (1000000 < den) || decide (1099511627776 < num)), .int .i64 num, .bool (decide (num < -1099511627776)), .bool (decide (den < 1) || decide (1000000 < den) || decide (1099511627776 < num) || decide (num < -1099511627776)), .pointer (some ⟨w1.heap.size, 0, none⟩), .int .i64 num, .int .i64 den, .pointer (some ⟨w1.heap.size, 0, none⟩), .pointer (some ⟨w1.heap.size, 0, none⟩), .pointer (some ⟨w1.heap.size, 0, none⟩), .pointer (some ⟨w2.heap.size, 0, none⟩), .pointer (some ⟨w.heap.size, 7, none⟩), .int .i64 ad, .pointer (some ⟨w2.heap.size, 0, none⟩), .pointer (some ⟨w1.heap.size, 0, none⟩), .pointer (some ⟨w1.heap.size, 0, none⟩), .pointer (some ⟨w1.heap.size, 0, none⟩), .pointer (some ⟨w4.heap.size, 0, none⟩), .pointer (some ⟨w.heap.size, 6, none⟩), .int .i64 di, .pointer (some ⟨w4.heap.size, 0, none⟩), .pointer (some ⟨w1.heap.size, 0, none⟩), .pointer (some ⟨w1.heap.size, 0, none⟩), .pointer (some ⟨w1.heap.size, 0, none⟩), .pointer (some ⟨w6.heap.size, 0, none⟩), .pointer (some ⟨w.heap.size, 5, none⟩), .int .i64 mu, .pointer (some ⟨w6.heap.size, 0, none⟩), .pointer (some ⟨w1.heap.size, 0, none⟩), .pointer (some ⟨w1.heap.size, 0, none⟩), .bool true, .bool false, v53, v54, v55, .pointer (some ⟨w.heap.size, 2, none⟩), v57, v58, v59, undef, undef, undef, undef, undef, undef, undef, undef, undef, undef, undef, undef, undef, undef, undef, undef, undef, undef, undef, undef, undef, undef, undef], []⟩ ∧ UnI sz w9 W b0 b1 b2 b4 b5 b6 b7 b8 g0 gA g1 v53 v54 v55 v57 v58 v59 v9 v10) #[false, false, false, true, false, false, false, false, false] (by kernel_rfl) (by kernel_rfl) ⟨false, false, false, false, false, false, false, false, 0, 0, 0, undef, undef, undef, undef, undef, undef, undef, undef, rfl, rfl, ?_⟩ ?_ ?_
    · exact { below := ⟨rfl, rfl, rfl, Nat.le_refl _, fun _ _ => rfl⟩, z0 := fun e => Bool.noConfusion e, box := fun e => Bool.noConfusion e, z1 := fun e => Bool.noConfusion e, l4 := fun e => Bool.noConfusion e, c5 := fun e => Bool.noConfusion e, s59 := fun e => Bool.noConfusion e, a9 := fun e => Bool.noConfusion e, a10 := fun e => Bool.noConfusion e, d0 := fun e => Bool.noConfusion e, d1 := fun e => Bool.noConfusion e, o6 := fun e => Bool.noConfusion e, o7 := fun e => Bool.noConfusion e, o8 := fun e => Bool.noConfusion e }
    rotate_left
    · rintro l a W i o ⟨b0, b1, b2, b4, b5, b6, b7, b8, g0, gA, g1, v53, v54, v55, v57, v58, v59, v9, v10, rfl, rfl, hI⟩ h0 ho hall K hK
      have hi : i < 9 := (Array.getElem?_eq_some_iff.1 ho).1
      have hii : i = 0 ∨ i = 1 ∨ i = 2 ∨ i = 3 ∨ i = 4 ∨ i = 5 ∨ i = 6 ∨ i = 7 ∨ i = 8 := by omega
      clear hi
      rcases hii with rfl | rfl | rfl | rfl | rfl | rfl | rfl | rfl | rfl
      · simp only [List.getElem?_toArray, List.getElem?_cons_zero, Option.some.injEq] at ho
        subst ho
        have HC := Hid.mk (hI.new0 h0)
        clear hall h0 hI
        go_simp
        go_wp2_with fail
        with_reducible refine HC.out.mono ?_
        rintro e W2 ⟨rfl, hI2⟩
        have HI2 := Hid.mk hI2
        clear hI2
        go_wp2_with fail
        exact hK.out _ _ ⟨_, _, _, _, _, _, _, _, _, _, _, _, _, _, _, _, _, _, _, rfl, rfl, HI2.out⟩
      · simp only [List.getElem?_toArray, List.getElem?_cons_zero, List.getElem?_cons_succ, Option.some.injEq] at ho
        subst ho
        have HN := Hid.mk (hI.new1 h0)
        clear hall h0 hI
        go_simp
        exact hK.out _ _ ⟨_, _, _, _, _, _, _, _, _, _, _, _, _, _, _, _, _, _, _, rfl, rfl, HN.out⟩
      · simp only [List.getElem?_toArray, List.getElem?_cons_zero, List.getElem?_cons_succ, Option.some.injEq] at ho
        subst ho
        have HC := Hid.mk hI.new2
        clear hall h0 hI
        go_simp
        go_wp2_with fail
        with_reducible refine HC.out.mono ?_
        rintro e W2 ⟨rfl, hI2⟩
        have HI2 := Hid.mk hI2
        clear hI2
        go_wp2_with fail
        exact hK.out _ _ ⟨_, _, _, _, _, _, _, _, _, _, _, _, _, _, _, _, _, _, _, rfl, rfl, HI2.out⟩
      · exact Bool.noConfusion h0
      · simp only [List.getElem?_toArray, List.getElem?_cons_zero, List.getElem?_cons_succ, Option.some.injEq] at ho
        subst ho
        have HN := Hid.mk hI.load4
        have c2 := (HG9.out.kept hI.below).c2
        simp only at c2
        clear hall h0 hI
        go_simp
        exact hK.out _ _ ⟨_, _, _, _, _, _, _, _, _, _, _, _, _, _, _, _, _, _, _, rfl, rfl, HN.out⟩
      · simp only [List.getElem?_toArray, List.getElem?_cons_zero, List.getElem?_cons_succ, Option.some.injEq] at ho
        subst ho
        have e4 : b4 = true := hall ⟨4, .data⟩ (by simp) rfl
        have HN := Hid.mk hI.conv5
        have hv := hI.l4 e4
        subst hv
        clear hall h0 hI
        have hcv : IntKind.u64.wrap (sz : Int) = (sz : Int) := by rw [IntKind.wrap_u64]; omega
        go_simp
        try rw [hcv]
        exact hK.out _ _ ⟨_, _, _, _, _, _, _, _, _, _, _, _, _, _, _, _, _, _, _, rfl, rfl, HN.out⟩
      · simp only [List.getElem?_toArray, List.getElem?_cons_zero, List.getElem?_cons_succ, Option.some.injEq] at ho
        subst ho
        have e1 : b1 = true := hall ⟨1, .data⟩ (by simp) rfl
        have e2 : b2 = true := hall ⟨2, .data⟩ (by simp) rfl
        have e5 : b5 = true := hall ⟨5, .data⟩ (by simp) rfl
        obtain ⟨hv1, hv2, hv3, hC⟩ := hI.lsh6 hs40 e1 e2 e5
        unfold ptr at hv1 hv2
        have HC := Hid.mk hC
        subst hv1 hv2 hv3
        clear hC hall h0 hI
        go_simp
        go_wp2_with fail
        with_reducible refine HC.out.mono ?_
        rintro e W2 ⟨rfl, hI2⟩
        have HI2 := Hid.mk hI2
        clear hI2
        go_wp2_with fail
        exact hK.out _ _ ⟨_, _, _, _, _, _, _, _, _, _, _, _, _, _, _, _, _, _, _, rfl, rfl, HI2.out⟩
      · simp only [List.getElem?_toArray, List.getElem?_cons_zero, List.getElem?_cons_succ, Option.some.injEq] at ho
        subst ho
        have e0 : b0 = true := hall ⟨0, .data⟩ (by simp) rfl
        have HN := Hid.mk (hI.set7 e0)
        clear hall h0 hI
        go_simp
        exact hK.out _ _ ⟨_, _, _, _, _, _, _, _, _, _, _, _, _, _, _, _, _, _, _, rfl, rfl, HN.out⟩
      · simp only [List.getElem?_toArray, List.getElem?_cons_zero, List.getElem?_cons_succ, Option.some.injEq] at ho
        subst ho
        have e6 : b6 = true := hall ⟨6, .data⟩ (by simp) rfl
        have HN := Hid.mk (hI.set8 e6)
        clear hall h0 hI
        go_simp
        exact hK.out _ _ ⟨_, _, _, _, _, _, _, _, _, _, _, _, _, _, _, _, _, _, _, rfl, rfl, HN.out⟩
    rintro l a W ⟨b0, b1, b2, b4, b5, b6, b7, b8, g0, gA, g1, v53, v54, v55, v57, v58, v59, v9, v10, rfl, rfl, hI⟩ hr
    cases b0 with
    | false => exact (Oi.ready_nil (i := 0) hr rfl rfl (by intro e he _; simp at he; try (first | (rcases he with rfl | rfl | rfl | rfl | rfl | rfl | rfl | rfl | rfl | rfl | rfl | rfl <;> rfl) | (rcases he with rfl | rfl | rfl | rfl | rfl | rfl | rfl | rfl | rfl | rfl | rfl <;> rfl) | (rcases he with rfl | rfl | rfl | rfl | rfl | rfl | rfl | rfl | rfl | rfl <;> rfl) | (rcases he with rfl | rfl | rfl | rfl | rfl | rfl | rfl | rfl | rfl <;> rfl) | (rcases he with rfl | rfl | rfl | rfl | rfl | rfl | rfl | rfl <;> rfl) | (rcases he with rfl | rfl | rfl | rfl | rfl | rfl | rfl <;> rfl) | (rcases he with rfl | rfl | rfl | rfl | rfl | rfl <;> rfl) | (rcases he with rfl | rfl | rfl | rfl | rfl <;> rfl) | (rcases he with rfl | rfl | rfl | rfl <;> rfl) | (rcases he with rfl | rfl | rfl <;> rfl) | (rcases he with rfl | rfl <;> rfl) | (rcases he with rfl; rfl)))).elim
    | true =>
    cases b1 with
    | false => exact (Oi.ready_nil (i := 1) hr rfl rfl (by intro e he _; simp at he; try (first | (rcases he with rfl | rfl | rfl | rfl | rfl | rfl | rfl | rfl | rfl | rfl | rfl | rfl <;> rfl) | (rcases he with rfl | rfl | rfl | rfl | rfl | rfl | rfl | rfl | rfl | rfl | rfl <;> rfl) | (rcases he with rfl | rfl | rfl | rfl | rfl | rfl | rfl | rfl | rfl | rfl <;> rfl) | (rcases he with rfl | rfl | rfl | rfl | rfl | rfl | rfl | rfl | rfl <;> rfl) | (rcases he with rfl | rfl | rfl | rfl | rfl | rfl | rfl | rfl <;> rfl) | (rcases he with rfl | rfl | rfl | rfl | rfl | rfl | rfl <;> rfl) | (rcases he with rfl | rfl | rfl | rfl | rfl | rfl <;> rfl) | (rcases he with rfl | rfl | rfl | rfl | rfl <;> rfl) | (rcases he with rfl | rfl | rfl | rfl <;> rfl) | (rcases he with rfl | rfl | rfl <;> rfl) | (rcases he with rfl | rfl <;> rfl) | (rcases he with rfl; rfl)))).elim
    | true =>
    cases b2 with
    | false => exact (Oi.ready_nil (i := 2) hr rfl rfl (by intro e he _; simp at he; try (first | (rcases he with rfl | rfl | rfl | rfl | rfl | rfl | rfl | rfl | rfl | rfl | rfl | rfl <;> rfl) | (rcases he with rfl | rfl | rfl | rfl | rfl | rfl | rfl | rfl | rfl | rfl | rfl <;> rfl) | (rcases he with rfl | rfl | rfl | rfl | rfl | rfl | rfl | rfl | rfl | rfl <;> rfl) | (rcases he with rfl | rfl | rfl | rfl | rfl | rfl | rfl | rfl | rfl <;> rfl) | (rcases he with rfl | rfl | rfl | rfl | rfl | rfl | rfl | rfl <;> rfl) | (rcases he with rfl | rfl | rfl | rfl | rfl | rfl | rfl <;> rfl) | (rcases he with rfl | rfl | rfl | rfl | rfl | rfl <;> rfl) | (rcases he with rfl | rfl | rfl | rfl | rfl <;> rfl) | (rcases he with rfl | rfl | rfl | rfl <;> rfl) | (rcases he with rfl | rfl | rfl <;> rfl) | (rcases he with rfl | rfl <;> rfl) | (rcases he with rfl; rfl)))).elim
    | true =>
    cases b4 with
    | false => exact (Oi.ready_nil (i := 4) hr rfl rfl (by intro e he _; simp at he; try (first | (rcases he with rfl | rfl | rfl | rfl | rfl | rfl | rfl | rfl | rfl | rfl | rfl | rfl <;> rfl) | (rcases he with rfl | rfl | rfl | rfl | rfl | rfl | rfl | rfl | rfl | rfl | rfl <;> rfl) | (rcases he with rfl | rfl | rfl | rfl | rfl | rfl | rfl | rfl | rfl | rfl <;> rfl) | (rcases he with rfl | rfl | rfl | rfl | rfl | rfl | rfl | rfl | rfl <;> rfl) | (rcases he with rfl | rfl | rfl | rfl | rfl | rfl | rfl | rfl <;> rfl) | (rcases he with rfl | rfl | rfl | rfl | rfl | rfl | rfl <;> rfl) | (rcases he with rfl | rfl | rfl | rfl | rfl | rfl <;> rfl) | (rcases he with rfl | rfl | rfl | rfl | rfl <;> rfl) | (rcases he with rfl | rfl | rfl | rfl <;> rfl) | (rcases he with rfl | rfl | rfl <;> rfl) | (rcases he with rfl | rfl <;> rfl) | (rcases he with rfl; rfl)))).elim
    | true =>
    cases b5 with
    | false => exact (Oi.ready_nil (i := 5) hr rfl rfl (by intro e he _; simp at he; try (first | (rcases he with rfl | rfl | rfl | rfl | rfl | rfl | rfl | rfl | rfl | rfl | rfl | rfl <;> rfl) | (rcases he with rfl | rfl | rfl | rfl | rfl | rfl | rfl | rfl | rfl | rfl | rfl <;> rfl) | (rcases he with rfl | rfl | rfl | rfl | rfl | rfl | rfl | rfl | rfl | rfl <;> rfl) | (rcases he with rfl | rfl | rfl | rfl | rfl | rfl | rfl | rfl | rfl <;> rfl) | (rcases he with rfl | rfl | rfl | rfl | rfl | rfl | rfl | rfl <;> rfl) | (rcases he with rfl | rfl | rfl | rfl | rfl | rfl | rfl <;> rfl) | (rcases he with rfl | rfl | rfl | rfl | rfl | rfl <;> rfl) | (rcases he with rfl | rfl | rfl | rfl | rfl <;> rfl) | (rcases he with rfl | rfl | rfl | rfl <;> rfl) | (rcases he with rfl | rfl | rfl <;> rfl) | (rcases he with rfl | rfl <;> rfl) | (rcases he with rfl; rfl)))).elim
    | true =>
    cases b6 with
    | false => exact (Oi.ready_nil (i := 6) hr rfl rfl (by intro e he _; simp at he; try (first | (rcases he with rfl | rfl | rfl | rfl | rfl | rfl | rfl | rfl | rfl | rfl | rfl | rfl <;> rfl) | (rcases he with rfl | rfl | rfl | rfl | rfl | rfl | rfl | rfl | rfl | rfl | rfl <;> rfl) | (rcases he with rfl | rfl | rfl | rfl | rfl | rfl | rfl | rfl | rfl | rfl <;> rfl) | (rcases he with rfl | rfl | rfl | rfl | rfl | rfl | rfl | rfl | rfl <;> rfl) | (rcases he with rfl | rfl | rfl | rfl | rfl | rfl | rfl | rfl <;> rfl) | (rcases he with rfl | rfl | rfl | rfl | rfl | rfl | rfl <;> rfl) | (rcases he with rfl | rfl | rfl | rfl | rfl | rfl <;> rfl) | (rcases he with rfl | rfl | rfl | rfl | rfl <;> rfl) | (rcases he with rfl | rfl | rfl | rfl <;> rfl) | (rcases he with rfl | rfl | rfl <;> rfl) | (rcases he with rfl | rfl <;> rfl) | (rcases he with rfl; rfl)))).elim
    | true =>
    cases b7 with
    | false => exact (Oi.ready_nil (i := 7) hr rfl rfl (by intro e he _; simp at he; try (first | (rcases he with rfl | rfl | rfl | rfl | rfl | rfl | rfl | rfl | rfl | rfl | rfl | rfl <;> rfl) | (rcases he with rfl | rfl | rfl | rfl | rfl | rfl | rfl | rfl | rfl | rfl | rfl <;> rfl) | (rcases he with rfl | rfl | rfl | rfl | rfl | rfl | rfl | rfl | rfl | rfl <;> rfl) | (rcases he with rfl | rfl | rfl | rfl | rfl | rfl | rfl | rfl | rfl <;> rfl) | (rcases he with rfl | rfl | rfl | rfl | rfl | rfl | rfl | rfl <;> rfl) | (rcases he with rfl | rfl | rfl | rfl | rfl | rfl | rfl <;> rfl) | (rcases he with rfl | rfl | rfl | rfl | rfl | rfl <;> rfl) | (rcases he with rfl | rfl | rfl | rfl | rfl <;> rfl) | (rcases he with rfl | rfl | rfl | rfl <;> rfl) | (rcases he with rfl | rfl | rfl <;> rfl) | (rcases he with rfl | rfl <;> rfl) | (rcases he with rfl; rfl)))).elim
    | true =>
    cases b8 with
    | false => exact (Oi.ready_nil (i := 8) hr rfl rfl (by intro e he _; simp at he; try (first | (rcases he with rfl | rfl | rfl | rfl | rfl | rfl | rfl | rfl | rfl | rfl | rfl | rfl <;> rfl) | (rcases he with rfl | rfl | rfl | rfl | rfl | rfl | rfl | rfl | rfl | rfl | rfl <;> rfl) | (rcases he with rfl | rfl | rfl | rfl | rfl | rfl | rfl | rfl | rfl | rfl <;> rfl) | (rcases he with rfl | rfl | rfl | rfl | rfl | rfl | rfl | rfl | rfl <;> rfl) | (rcases he with rfl | rfl | rfl | rfl | rfl | rfl | rfl | rfl <;> rfl) | (rcases he with rfl | rfl | rfl | rfl | rfl | rfl | rfl <;> rfl) | (rcases he with rfl | rfl | rfl | rfl | rfl | rfl <;> rfl) | (rcases he with rfl | rfl | rfl | rfl | rfl <;> rfl) | (rcases he with rfl | rfl | rfl | rfl <;> rfl) | (rcases he with rfl | rfl | rfl <;> rfl) | (rcases he with rfl | rfl <;> rfl) | (rcases he with rfl; rfl)))).elim
    | true =>
    clear hr
    have hv9 := hI.a9 rfl
    have hv10 := hI.a10 rfl
    unfold ptr at hv9 hv10
    subst hv9 hv10
    have HZ0 := Hid.mk (hI.z0 rfl).2
    obtain ⟨-, hgA, hbA, hzA⟩ := hI.box rfl
    have HZA := Hid.mk (And.intro (hzA rfl) hbA)
    have HGA := Hid.mk hgA
    have HNE := Hid.mk (hI.d0 rfl rfl)
    have HBW := Hid.mk hI.below
    clear hI hgA hbA hzA
    have HRW := Hid.mk (HR9.out.kept HBW.out)
    have HGW := Hid.mk (HG9.out.kept HBW.out)
    have HBB := Hid.mk (bl2 HB.out (bl2 HB9.out HBW.out))
    have c4 := HGW.out.c4
    simp only at c4
    have hrl := HR9.out.lt
    have hp40 := pow_le40 hs40
    have hph := pow_half hs1
    have hpp : (0 : Int) < 2 ^ (sz - 1) := Int.pow_pos (by omega)
    have HWW := Hid.mk (show w.heap.size ≤ w9.heap.size from (bl2 HB.out HB9.out).size)
    clear HB HG HB9 HR9 HG9 HGW
    cases sg with
    | false =>
      have hEX := HE.out
      unfold lowS highS at hEX
      simp only [Bool.false_eq_true, if_false] at hEX
      have HRX := Hid.mk HRW.out
      have HLO := Hid.mk HZ0.out.1.1
      have HHI := Hid.mk HZA.out.1
      have HBX := Hid.mk HBB.out
      generalize (2 : Int) ^ sz = Z at *
      have HEX := Hid.mk hEX
      clear hEX HE HZ0 HZA HRW HBB
      have HNM := Hid.mk (fun W' => rnum_z w1.heap.size W')
      have hC1 := icmp_z w1.heap.size 0 g0 0 N4 0 W HRX.out.num HLO.out HNB.out.1.1 HNB.out.1.2 (by omega) (by omega)
      have hC2 := fun W' (hb : Below W.heap.size W W') => icmp_z w1.heap.size 0 gA 0 N4 Z W' (HRX.out.kept hb).num (HHI.out.kept hb) HNB.out.1.1 HNB.out.1.2 (by omega) (by omega)
      have HI6 := Hid.mk (fun W' (hb : Below W.heap.size W W') => int64_z w1.heap.size 0 N4 W' (HRX.out.kept hb).num HNB.out.1.1 HNB.out.1.2)
      by_cases hlo : N4 < 0
      · rw [cmpI_lt hlo] at hC1
        have HEE := Hid.mk (HEX.out.2 (fun h => by omega))
        have HC1 := Hid.mk hC1
        clear hC1 hC2 hlo HEX
        go_wp2_with fail
        with_reducible refine (HNM.out _).mono ?_
        rintro e ww ⟨rfl, hww⟩
        obtain rfl := hww.symm
        go_wp2_with fail
        with_reducible refine HC1.out.mono ?_
        rintro e x1 ⟨rfl, hb1⟩
        have HX1 := Hid.mk (bl2 HBX.out hb1)
        have HX0 := Hid.mk hb1
        clear hb1
        go_wp2_with fail
        go_ret2
        exact ⟨by rw [HEE.out.1, HEE.out.2]; rfl, HX1.out⟩
      · obtain ⟨q1, q2⟩ := cmpI_ge hlo
        by_cases hhi : N4 < Z
        · rw [cmpI_lt hhi] at hC2
          have HEE := Hid.mk (HEX.out.1 (by omega))
          generalize cmpI N4 0 = C1 at *
          have HC1 := Hid.mk hC1
          have HC2 := Hid.mk hC2
          clear hC1 hC2 hlo hhi HEX
          go_wp2_with fail
          with_reducible refine (HNM.out _).mono ?_
          rintro e ww ⟨rfl, hww⟩
          obtain rfl := hww.symm
          go_wp2_with fail
          with_reducible refine HC1.out.mono ?_
          rintro e x1 ⟨rfl, hb1⟩
          have HX1 := Hid.mk (bl2 HBX.out hb1)
          have HX0 := Hid.mk hb1
          clear hb1
          go_wp2_with fail
          with_reducible refine (HNM.out _).mono ?_
          rintro e ww ⟨rfl, hww⟩
          obtain rfl := hww.symm
          go_wp2_with fail
          with_reducible refine (HC2.out _ HX0.out).mono ?_
          rintro e x2 ⟨rfl, hb2⟩
          have HX2 := Hid.mk (bl2 HX1.out hb2)
          have HX3 := Hid.mk (bl2 HX0.out hb2)
          clear hb2
          go_wp2_with fail
          with_reducible refine (HNM.out _).mono ?_
          rintro e ww ⟨rfl, hww⟩
          obtain rfl := hww.symm
          go_wp2_with fail
          with_reducible refine (HI6.out _ HX3.out).mono ?_
          rintro e ww ⟨rfl, hww⟩
          obtain rfl := hww.symm
          go_wp2_with fail
          go_ret2
          exact ⟨by rw [HEE.out.1, HEE.out.2]; rfl, HX2.out⟩
        · obtain ⟨r1, r2⟩ := cmpI_ge hhi
          have HEE := Hid.mk (HEX.out.2 (fun h => by omega))
          generalize cmpI N4 0 = C1 at *
          generalize cmpI N4 Z = C2 at *
          have HC1 := Hid.mk hC1
          have HC2 := Hid.mk hC2
          clear hC1 hC2 hlo hhi HEX
          go_wp2_with fail
          with_reducible refine (HNM.out _).mono ?_
          rintro e ww ⟨rfl, hww⟩
          obtain rfl := hww.symm
          go_wp2_with fail
          with_reducible refine HC1.out.mono ?_
          rintro e x1 ⟨rfl, hb1⟩
          have HX1 := Hid.mk (bl2 HBX.out hb1)
          have HX0 := Hid.mk hb1
          clear hb1
          go_wp2_with fail
          with_reducible refine (HNM.out _).mono ?_
          rintro e ww ⟨rfl, hww⟩
          obtain rfl := hww.symm
          go_wp2_with fail
          with_reducible refine (HC2.out _ HX0.out).mono ?_
          rintro e x2 ⟨rfl, hb2⟩
          have HX2 := Hid.mk (bl2 HX1.out hb2)
          have HX3 := Hid.mk (bl2 HX0.out hb2)
          clear hb2
          go_wp2_with fail
          go_ret2
          exact ⟨by rw [HEE.out.1, HEE.out.2]; rfl, HX2.out⟩
    | true =>
      have hEX := HE.out
      unfold lowS highS at hEX
      simp only [if_true] at hEX
      obtain ⟨cA, hcA, hiA⟩ := HZA.out.2
      have hR := irsh_z gA cA _ (2 ^ sz) W HZA.out.1 hcA hiA (by omega) (by omega)
      have hhalf : (2 : Int) ^ sz / 2 = 2 ^ (sz - 1) := by omega
      rw [hhalf] at hR
      have HRS := Hid.mk hR
      obtain ⟨Y, hY⟩ : ∃ Y : Int, Y = 2 ^ (sz - 1) := ⟨_, rfl⟩
      rw [← hY] at HRS hEX hph hpp
      have HEX := Hid.mk hEX
      have HCA := Hid.mk (And.intro hcA hiA)
      clear hEX HE hR hhalf hY hcA hiA
      go_wp2_with fail
      with_reducible refine HRS.out.mono ?_
      rintro e X1 ⟨rfl, hO1⟩
      have HA1 := Hid.mk (hO1.int HCA.out.2)
      have HR1 := Hid.mk (HRW.out.tch HCA.out.1 HCA.out.2.noW hO1.1 (by have := HGA.out; omega))
      have HI1 := Hid.mk (HZ0.out.1.tch HCA.out.1 HCA.out.2.noW hO1.1 HNE.out)
      have HBX1 := Hid.mk (Tch.below HBB.out hO1.1 (by have := HGA.out; have := HWW.out; simp; omega) (Nat.le_refl _))
      obtain ⟨hz0, cs0, hc0, hi0⟩ := HI1.out
      have HNG := Hid.mk (ineg_z g0 0 cs0 _ gA 0 Y X1 HA1.out.1 hc0 hi0.noW (by obtain ⟨b, a, l, c, rfl⟩ := hi0; exact ⟨_, rfl⟩) (by obtain ⟨b, a, l, c, rfl⟩ := hi0; exact ⟨_, _, _, rfl⟩) (by omega) (by omega))
      have HC0 := Hid.mk (And.intro hc0 hi0)
      clear hO1 hz0 hc0 hi0
      go_wp2_with fail
      with_reducible refine HNG.out.mono ?_
      rintro e X2 ⟨rfl, hO2⟩
      have HLO := Hid.mk (hO2.int HC0.out.2).1
      have HHI := Hid.mk (HA1.out.1.tch HC0.out.1 HC0.out.2.noW hO2.1 (fun x => HNE.out x.symm))
      have HRX := Hid.mk (HR1.out.tch HC0.out.1 HC0.out.2.noW hO2.1 (by have := HZ0.out.2; omega))
      have HBX := Hid.mk (Tch.below HBX1.out hO2.1 (by have := HZ0.out.2; have := HWW.out; simp; omega) (Nat.le_refl _))
      clear hO2 HNG HRS HA1 HR1 HI1 HBX1 HC0 HCA HZ0 HZA HRW HBB
      have HNM := Hid.mk (fun W' => rnum_z w1.heap.size W')
      have hC1 := icmp_z w1.heap.size 0 g0 0 N4 (-Y) X2 HRX.out.num HLO.out HNB.out.1.1 HNB.out.1.2 (by omega) (by omega)
      have hC2 := fun W' (hb : Below X2.heap.size X2 W') => icmp_z w1.heap.size 0 gA 0 N4 Y W' (HRX.out.kept hb).num (HHI.out.kept hb) HNB.out.1.1 HNB.out.1.2 (by omega) (by omega)
      have HI6 := Hid.mk (fun W' (hb : Below X2.heap.size X2 W') => int64_z w1.heap.size 0 N4 W' (HRX.out.kept hb).num HNB.out.1.1 HNB.out.1.2)
      by_cases hlo : N4 < (-Y)
      · rw [cmpI_lt hlo] at hC1
        have HEE := Hid.mk (HEX.out.2 (fun h => by omega))
        have HC1 := Hid.mk hC1
        clear hC1 hC2 hlo HEX
        go_wp2_with fail
        with_reducible refine (HNM.out _).mono ?_
        rintro e ww ⟨rfl, hww⟩
        obtain rfl := hww.symm
        go_wp2_with fail
        with_reducible refine HC1.out.mono ?_
        rintro e x1 ⟨rfl, hb1⟩
        have HX1 := Hid.mk (bl2 HBX.out hb1)
        have HX0 := Hid.mk hb1
        clear hb1
        go_wp2_with fail
        go_ret2
        exact ⟨by rw [HEE.out.1, HEE.out.2]; rfl, HX1.out⟩
      · obtain ⟨q1, q2⟩ := cmpI_ge hlo
        by_cases hhi : N4 < Y
        · rw [cmpI_lt hhi] at hC2
          have HEE := Hid.mk (HEX.out.1 (by omega))
          generalize cmpI N4 (-Y) = C1 at *
          have HC1 := Hid.mk hC1
          have HC2 := Hid.mk hC2
          clear hC1 hC2 hlo hhi HEX
          go_wp2_with fail
          with_reducible refine (HNM.out _).mono ?_
          rintro e ww ⟨rfl, hww⟩
          obtain rfl := hww.symm
          go_wp2_with fail
          with_reducible refine HC1.out.mono ?_
          rintro e x1 ⟨rfl, hb1⟩
          have HX1 := Hid.mk (bl2 HBX.out hb1)
          have HX0 := Hid.mk hb1
          clear hb1
          go_wp2_with fail
          with_reducible refine (HNM.out _).mono ?_
          rintro e ww ⟨rfl, hww⟩
          obtain rfl := hww.symm
          go_wp2_with fail
          with_reducible refine (HC2.out _ HX0.out).mono ?_
          rintro e x2 ⟨rfl, hb2⟩
          have HX2 := Hid.mk (bl2 HX1.out hb2)
          have HX3 := Hid.mk (bl2 HX0.out hb2)
          clear hb2
          go_wp2_with fail
          with_reducible refine (HNM.out _).mono ?_
          rintro e ww ⟨rfl, hww⟩
          obtain rfl := hww.symm
          go_wp2_with fail
          with_reducible refine (HI6.out _ HX3.out).mono ?_
          rintro e ww ⟨rfl, hww⟩
          obtain rfl := hww.symm
          go_wp2_with fail
          go_ret2
          exact ⟨by rw [HEE.out.1, HEE.out.2]; rfl, HX2.out⟩
        · obtain ⟨r1, r2⟩ := cmpI_ge hhi
          have HEE := Hid.mk (HEX.out.2 (fun h => by omega))
          generalize cmpI N4 (-Y) = C1 at *
          generalize cmpI N4 Y = C2 at *
          have HC1 := Hid.mk hC1
          have HC2 := Hid.mk hC2
          clear hC1 hC2 hlo hhi HEX
          go_wp2_with fail
          with_reducible refine (HNM.out _).mono ?_
          rintro e ww ⟨rfl, hww⟩
          obtain rfl := hww.symm
          go_wp2_with fail
          with_reducible refine HC1.out.mono ?_
          rintro e x1 ⟨rfl, hb1⟩
          have HX1 := Hid.mk (bl2 HBX.out hb1)
          have HX0 := Hid.mk hb1
          clear hb1
          go_wp2_with fail
          with_reducible refine (HNM.out _).mono ?_
          rintro e ww ⟨rfl, hww⟩
          obtain rfl := hww.symm
          go_wp2_with fail
          with_reducible refine (HC2.out _ HX0.out).mono ?_
          rintro e x2 ⟨rfl, hb2⟩
          have HX2 := Hid.mk (bl2 HX1.out hb2)
          have HX3 := Hid.mk (bl2 HX0.out hb2)
          clear hb2
          go_wp2_with fail
          go_ret2
          exact ⟨by rw [HEE.out.1, HEE.out.2]; rfl, HX2.out⟩
  · have HE := Hid.mk (HD1.out hD)
    have hdd : decide (D4 = 1) = false := decide_eq_false hD
    rw [hdd] at HIS
    clear hD hdd HD1 HD2
    go_wp2_with fail
    with_reducible refine HIS.out.mono ?_
    rintro e w9 ⟨rfl, hb9⟩
    have HB9 := Hid.mk (bl2 HB.out (bl2 HB8.out hb9))
    clear hb9
    go_wp2_with fail
    go_ret2
    exact ⟨by rw [HE.out.1, HE.out.2]; rfl, HB9.out⟩
end Bw
end Go.Proofs.YtgknolliicachaaDoor
