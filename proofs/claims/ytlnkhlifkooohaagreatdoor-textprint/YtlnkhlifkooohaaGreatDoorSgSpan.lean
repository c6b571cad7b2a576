/- Right signals; what package signal's span and lowest answer. -/
import Derived.Test.YtlnkhlifkooohaaGreatDoorSgCheck
namespace Go.Proofs.YtlnkhlifkooohaaGreatDoor
open Go.ChangeShapes Go.WideShapes Go.ChangeAt Go.RowKit Go.Sort
namespace Bw
open Sm
/-- a right signal in n bytes -/
structure Rt (s : Sig) (st sz n : Nat) : Prop where
  hst : s.st = st
  hsz : s.sz = sz
  s1 : 1 ≤ sz
  s40 : sz ≤ 40
  fit : fsN s.bk st + sz ≤ 8 * n
  n64 : n ≤ 64
  mu0 : s.mu ≠ 0
  mu1 : -1000000 ≤ s.mu
  mu2 : s.mu ≤ 1000000
  di1 : 1 ≤ s.di
  di2 : s.di ≤ 1000000
  ad1 : -1000000 ≤ s.ad
  ad2 : s.ad ≤ 1000000
theorem flipI_neg {x : Int} (h : 0 ≤ flipI x) : 0 ≤ x := by unfold flipI at h; omega
theorem chk_size {s : Sig} {size : Int} (h : chkS s size = 0) : nameB s.nm.data.toList = true ∧ (0 ≤ size ∧ size ≤ 64) ∧ numB s = true ∧ 0 ≤ fsI s ∧ fsI s ≤ 8 * size - s.sz := by
  unfold chkS at h
  split at h
  · omega
  · rename_i h1
    split at h
    · omega
    · rename_i h2
      split at h
      · omega
      · rename_i h3
        simp only [Bool.not_eq_false, Bool.and_eq_true] at h1 h2 h3
        exact ⟨h1, inB_iff.1 h2.1, h2.2, inB_iff.1 h3⟩
theorem right_of {s : Sig} {n : Nat} (h : chkS s n = 0) : ∃ st sz : Nat, Rt s st sz n := by
  obtain ⟨_, ⟨_, h2⟩, h3, h4, h5⟩ := chk_size h
  unfold numB at h3
  simp only [Bool.and_eq_true, inB_iff, Bool.not_eq_true', beq_eq_false_iff_ne] at h3
  obtain ⟨⟨a1, a2⟩, a3, ⟨a4, a5⟩, ⟨a6, a7⟩, ⟨a8, a9⟩, _⟩ := h3
  have hst : 0 ≤ s.st := by
    unfold fsI at h4
    split at h4
    · exact flipI_neg h4
    · exact h4
  refine ⟨s.st.toNat, s.sz.toNat, ⟨by omega, by omega, by omega, by omega, ?_, by omega, a3, a4, a5, a6, a7, a8, a9⟩⟩
  have e : s.st = ((s.st.toNat : Nat) : Int) := by omega
  unfold fsI at h5
  rw [e] at h5
  cases hb : s.bk with
  | true => rw [hb, if_pos rfl, flipI_nat] at h5; simp only [fsN]; omega
  | false => rw [hb, if_neg (by simp)] at h5; simp only [fsN]; omega
theorem Rt.more {s : Sig} {st sz n m : Nat} (h : Rt s st sz n) (h1 : n ≤ m) (h2 : m ≤ 64) : Rt s st sz m :=
  ⟨h.hst, h.hsz, h.s1, h.s40, by have := h.fit; omega, h2, h.mu0, h.mu1, h.mu2, h.di1, h.di2, h.ad1, h.ad2⟩
theorem Rt.st_lt {s : Sig} {st sz n : Nat} (h : Rt s st sz n) : st < 8 * n := Sm.st_lt h.s1 h.fit
theorem Rt.pl {s : Sig} {st sz n i : Nat} (h : Rt s st sz n) (hi : i < sz) : plI s i = (plN s.bk st sz i : Int) := by
  unfold plI plN
  rw [h.hst, h.hsz]
  cases s.bk with
  | true =>
    simp only [if_true]
    rw [flipI_nat, show (flipN st : Int) + (sz : Int) - 1 - (i : Int) = ((flipN st + sz - 1 - i : Nat) : Int) by omega, flipI_nat]
  | false => simp
theorem Rt.pl_lt {s : Sig} {st sz n i : Nat} (h : Rt s st sz n) (hi : i < sz) : plN s.bk st sz i < 8 * n := plN_lt hi h.fit
/-- more bytes: still right -/
theorem chk_more {s : Sig} {n : Nat} (h : chkS s n = 0) : chkS s 64 = 0 := by
  obtain ⟨h1, ⟨_, h2⟩, h3, h4, h5⟩ := chk_size h
  unfold chkS
  rw [if_neg (by rw [h1]; simp), if_neg (by rw [h3, inB_yes (by omega)]; simp), if_neg (by rw [inB_yes (by omega)]; simp)]
set_option maxHeartbeats 4000000 in
theorem span_any (s : Sig) (st sz n : Nat) (w : World) (h : Rt s st sz n) :
    Calls Tryz.prog 129 #[sgV s] w fun e w' => e = .returned (.tuple #[.int .i64 (lowS s.sg sz), .int .i64 (highS s.sg sz)]) ∧ Below w.heap.size w w' := by
  have hB := sg_box w s
  have hG := SgAt.box w s
  have hsz := h.hsz
  have h1 := h.s1
  have h40 := h.s40
  clear h
  obtain ⟨nm, sta, sza, bk, sg, mu, di, ad, ky⟩ := s
  simp only at hsz
  subst hsz
  unfold sgC at hB hG
  unfold sgV
  simp only at hB hG ⊢
  have hsz0 : (1 : Int) ≤ (sz : Int) := by omega
  have hsz1 : (sz : Int) ≤ 40 := by omega
  have hp : (2 : Int) ^ sz = 2 * 2 ^ (sz - 1) := pow_half h1
  have hpb : (2 : Int) ^ (sz - 1) ≤ 2 ^ 39 := by
    have : 2 ^ (sz - 1) ≤ 2 ^ 39 := Nat.pow_le_pow_right (by omega) (by omega)
    exact_mod_cast this
  have hp0 : (0 : Int) < 2 ^ (sz - 1) := Int.pow_pos (by omega)
  obtain ⟨H, hH⟩ : ∃ H : Int, H = 2 ^ (sz - 1) := ⟨_, rfl⟩
  have hH1 : H ≤ 549755813888 := by rw [hH]; exact hpb
  have hH0 : 0 < H := by rw [hH]; exact hp0
  have hs1 : IntKind.i64.wrap (1 * 2 ^ (sz - 1)) = H := by rw [IntKind.wrap_i64, ← hH]; omega
  have hs2 : IntKind.i64.wrap (1 * 2 ^ sz) = 2 * H := by rw [IntKind.wrap_i64, hp, ← hH]; omega
  have hs1' : IntKind.i64.wrap (2 ^ (sz - 1)) = H := by rw [IntKind.wrap_i64, ← hH]; omega
  have hs2' : IntKind.i64.wrap (2 ^ sz) = 2 * H := by rw [IntKind.wrap_i64, hp, ← hH]; omega
  have hidx : ((sz : Int) - 1).toNat = sz - 1 := by omega
  have hlow : lowS true sz = -H := by unfold lowS; rw [if_pos rfl, hH]
  have hhigh : highS true sz = H - 1 := by unfold highS; rw [if_pos rfl, hH]
  have hlow' : lowS false sz = 0 := by unfold lowS; rw [if_neg (by simp)]
  have hhigh' : highS false sz = 2 * H - 1 := by unfold highS; rw [if_neg (by simp), hp, hH]
  have HB := Hid.mk hB
  clear hp hpb hp0 hH hB h1 h40
  cases sg with
  | true =>
    rw [hlow, hhigh]
    clear hlow hhigh hlow' hhigh' hG
    go_enter Tryz.func129, Tryz.ntmps129
    go_wp2_with fail
    go_ret2
    exact ⟨rfl, HB.out⟩
  | false =>
    rw [hlow', hhigh']
    clear hlow hhigh hlow' hhigh'
    obtain ⟨k0, k1, k2, k3, k4, k5, k6, k7, k8⟩ := hG
    go_enter Tryz.func129, Tryz.ntmps129
    go_wp2_with fail
    go_quiet (fail)
    go_wp2_with fail
    go_ret2
    exact ⟨rfl, drB HB.out _⟩
end Bw
end Go.Proofs.YtlnkhlifkooohaaGreatDoor
