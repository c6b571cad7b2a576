/- The law's own check of tasks, what they take, and rounding up. -/
import Derived.Test.YtnhnemmddgofnaaDoorDlCheck
import Derived.Test.YtnhnemmddgofnaaDoorDlTakes
import Derived.Test.YtnhnemmddgofnaaDoorR2
import Derived.Shelf.Abstract
import Derived.BigQuiet
namespace Go.Proofs.YtnhnemmddgofnaaDoor
open Go.ChangeShapes Go.WideShapes Go.ChangeAt Go.RowKit
namespace Bw
set_option linter.unusedVariables false
theorem enter_in : ∀ args w, (callFunc 21 args).run Tryd.prog w = .ok (.enter 21 args) w := enters_of Tryd.func21 (by kernel_rfl) rfl
def inB3 (n lo hi : Int) : Bool := decide (lo ≤ n) && decide (n ≤ hi)
theorem in1_any (n lo hi : Int) (w : World) : Calls Tryd.prog 21 #[.int .i64 n, .int .i64 lo, .int .i64 hi] w fun e w' => e = .returned (.bool (inB3 n lo hi)) ∧ w' = w := by
  unfold inB3
  by_cases h0 : lo ≤ n
  · rw [decide_eq_true h0, Bool.true_and]
    have hd : decide (lo ≤ n) = true := decide_eq_true h0
    go_enter Tryd.func21, Tryd.ntmps21
    go_wp2_with fail
    go_ret
    exact ⟨rfl, rfl⟩
  · rw [decide_eq_false h0, Bool.false_and]
    have hd : decide (lo ≤ n) = false := decide_eq_false h0
    go_enter Tryd.func21, Tryd.ntmps21
    go_wp2_with fail
    go_ret
    exact ⟨rfl, rfl⟩
set_option maxHeartbeats 1000000 in
theorem ltakes_any (r : Tk) (w : World) (hr : okT r = true) (hD : w.cell? ⟨5, 1, none⟩ = some (.int .u8 1)) :
    Calls Tryd.prog 11 #[r.val] w fun e w' => e = .returned (.int .i64 (cN r : Nat)) ∧ Below w.heap.size w w' := by
  obtain ⟨h1, h2, h3, h4, h5, h6, h7, h8, h9, h10⟩ := okT_n hr
  have hb := awD w (tkC r)
  have HB := Hid.mk hb
  have hfe : frE (frZ false false r.by_.toNat) = 0 := by
    have := frE_short h9
    unfold frE
    have hl : (frZ false false r.by_.toNat).dt.length = r.by_.toNat := by simp [frZ]
    rw [hl]
    exact this
  have HC := Hid.mk (longestOf_any false false r.by_.toNat (w.alloc (tkC r)) (cell_kept hb hD) (by omega) hfe)
  rw [longN_short h9] at HC
  have he : ((52 + 10 * r.by_.toNat : Nat) : Int) + 3 = (cN r : Int) := by unfold cN; omega
  have hE : ((52 + 10 * r.by_.toNat : Nat) : Int) ≤ 200 := by omega
  have hE0 : 0 ≤ ((52 + 10 * r.by_.toNat : Nat) : Int) := by omega
  rw [← h10] at HC
  generalize ((52 + 10 * r.by_.toNat : Nat) : Int) = E at *
  obtain ⟨id, by_, ev, la, ji⟩ := r
  generalize cN ⟨id, by_, ev, la, ji⟩ = C at *
  unfold tkC at HB HC
  unfold Tk.val
  simp only at *
  have HE := Hid.mk he
  clear hb hD hr h1 h2 h3 h4 h5 h6 h7 h8 h9 h10 he hfe
  go_enter Tryd.func11, Tryd.ntmps11
  go_wp2_with fail
  refine HC.out.mono ?_
  rintro e w1 ⟨rfl, hb1⟩
  have HB1 := Hid.mk (bl2 HB.out hb1)
  clear hb1 HC
  go_wp2_with fail
  go_ret
  refine ⟨?_, HB1.out⟩
  rw [← HE.out]
  rfl
set_option maxHeartbeats 4000000 in
set_option maxRecDepth 100000 in
theorem lchk_any (a : Option Addr) (n c : Nat) (l : List Tk) (w : World) (hT : IsTks w a n c l) :
    Calls Tryd.prog 8 #[.slice a n c] w fun e w' => e = .returned (.int .i64 (chkT l)) ∧ Below w.heap.size w w' := by
  have hn63 := mlenD (Nat.le_trans hT.le hT.max)
  have HT := Hid.mk hT
  have hl := hT.len
  unfold chkT
  rw [hl]
  clear hT
  by_cases h20 : 20 < n
  · rw [if_pos h20]
    have h20' : (20 : Int) < (n : Int) := by omega
    go_enter Tryd.func8, Tryd.ntmps8
    go_wp2_with fail
    go_ret
    exact ⟨rfl, Below.refl _ _⟩
  rw [if_neg h20]
  have h20' : ¬ ((20 : Int) < (n : Int)) := by omega
  obtain ⟨Z, hZ⟩ : ∃ Z : Int, Z = chkF (-1) l := ⟨_, rfl⟩
  rw [← hZ]
  have HZE := Hid.mk hZ
  have HLN := Hid.mk hl
  clear hZ hl
  go_enter Tryd.func8, Tryd.ntmps8
  go_wp2_with fail
  go_loopw [11] (fun i wr => ∃ k : Nat, k ≤ n ∧ i = .int .i64 k ∧ Hid (Z = chkF (prevT l k) (l.drop k)) ∧ Hid (Below w.heap.size w wr)) (fun i _ => n - (intOf i).toNat)
  case atStart => exact ⟨0, Nat.zero_le _, rfl, Hid.mk (by rw [HZE.out]; rfl), Hid.mk (Below.refl _ _)⟩
  case round =>
    obtain ⟨k, hk, rfl, HA, HB⟩ := hrel
    by_cases hlt : k < n
    · have hlt' : (k : Int) < (n : Int) := by omega
      obtain ⟨x, rfl⟩ := HT.out.some hlt
      obtain ⟨c0, c1, c2, c3, c4⟩ := (HT.out.kept HB.out).cell x rfl k hlt
      obtain ⟨r, hr⟩ : ∃ r, r = l.getD k noT := ⟨_, rfl⟩
      rw [← hr] at c0 c1 c2 c3 c4
      have HD : Hid (Z = if okT r = true then (if r.id ≤ prevT l k then 4 else chkF r.id (l.drop (k + 1))) else 3) := Hid.mk (by rw [HA.out, drop_consT (by rw [HLN.out]; exact hlt), ← hr, chkF])
      have HPN : Hid (prevT l (k + 1) = r.id) := Hid.mk (by rw [prevT_next, hr])
      have hb1 := awD wr (tkC r)
      have HB1 := Hid.mk (bl2 HB.out hb1)
      have HV := Hid.mk (TkAt.new wr r)
      have HT1 := Hid.mk ((HT.out.kept HB.out).kept hb1)
      have HIN := Hid.mk in1_any
      have eg := enter_in
      clear hr hb1
      obtain ⟨id, by_, ev, la, ji⟩ := r
      unfold tkC at HB1 HV HT1
      simp only at c0 c1 c2 c3 c4 HB1 HV HT1 HD HPN
      have hwv : IntKind.i64.wrap (ev - 1) = ev - 1 ∨ ¬ (1 ≤ ev ∧ ev ≤ 1000000) := by
        by_cases h : 1 ≤ ev ∧ ev ≤ 1000000
        · exact .inl (by rw [IntKind.wrap_i64]; omega)
        · exact .inr h
      obtain ⟨g0, g1, g2, g3, g4⟩ := HV.out
      simp only at g0 g1 g2 g3 g4
      cases hq : okT ⟨id, by_, ev, la, ji⟩ with
      | false =>
        have HE : Hid (Z = 3) := Hid.mk (by rw [HD.out, hq, if_neg (by simp)])
        have hor : inB3 id 0 2047 = false ∨ inB3 ev 1 1000000 = false ∨ inB3 la 0 1000000 = false ∨ inB3 ji 0 (ev - 1) = false ∨ inB3 by_ 0 8 = false := by
          by_cases H : inB3 id 0 2047 = true ∧ inB3 ev 1 1000000 = true ∧ inB3 la 0 1000000 = true ∧ inB3 ji 0 (ev - 1) = true ∧ inB3 by_ 0 8 = true
          · exfalso
            unfold inB3 at H
            simp only [Bool.and_eq_true, decide_eq_true_eq] at H
            have : okT ⟨id, by_, ev, la, ji⟩ = true := okT_iff.2 (by simp only; omega)
            rw [this] at hq
            cases hq
          · simp only [← Bool.not_eq_true]
            by_cases q1 : inB3 id 0 2047 = true <;> by_cases q2 : inB3 ev 1 1000000 = true <;> by_cases q3 : inB3 la 0 1000000 = true <;> by_cases q4 : inB3 ji 0 (ev - 1) = true <;> by_cases q5 : inB3 by_ 0 8 = true <;> simp_all
        clear hq
        cases k0 : inB3 id 0 2047 with
        | false =>
          clear hor hwv
          go_wp2_with (go_at_fn 21; with_reducible refine (HIN.out _ _ _ _).mono ?_; rintro e wq ⟨rfl, hwq⟩; rw [hwq]; clear hwq)
          go_ret
          exact ⟨by rw [HE.out]; rfl, HB1.out⟩
        | true =>
        cases k1 : inB3 ev 1 1000000 with
        | false =>
          clear hor hwv
          go_wp2_with (go_at_fn 21; with_reducible refine (HIN.out _ _ _ _).mono ?_; rintro e wq ⟨rfl, hwq⟩; rw [hwq]; clear hwq)
          go_ret
          exact ⟨by rw [HE.out]; rfl, HB1.out⟩
        | true =>
        cases k2 : inB3 la 0 1000000 with
        | false =>
          have hev : 1 ≤ ev ∧ ev ≤ 1000000 := by unfold inB3 at k1; simpa using k1
          obtain ⟨hv1, hv2⟩ := hev
          clear hor hwv
          go_wp2_with (go_at_fn 21; with_reducible refine (HIN.out _ _ _ _).mono ?_; rintro e wq ⟨rfl, hwq⟩; rw [hwq]; clear hwq)
          go_ret
          exact ⟨by rw [HE.out]; rfl, HB1.out⟩
        | true =>
        cases k3 : inB3 ji 0 (ev - 1) with
        | false =>
          have hev : 1 ≤ ev ∧ ev ≤ 1000000 := by unfold inB3 at k1; simpa using k1
          obtain ⟨hv1, hv2⟩ := hev
          clear hor hwv
          go_wp2_with (go_at_fn 21; with_reducible refine (HIN.out _ _ _ _).mono ?_; rintro e wq ⟨rfl, hwq⟩; rw [hwq]; clear hwq)
          go_ret
          exact ⟨by rw [HE.out]; rfl, HB1.out⟩
        | true =>
        cases k4 : inB3 by_ 0 8 with
        | false =>
          have hev : 1 ≤ ev ∧ ev ≤ 1000000 := by unfold inB3 at k1; simpa using k1
          obtain ⟨hv1, hv2⟩ := hev
          clear hor hwv
          go_wp2_with (go_at_fn 21; with_reducible refine (HIN.out _ _ _ _).mono ?_; rintro e wq ⟨rfl, hwq⟩; rw [hwq]; clear hwq)
          go_ret
          exact ⟨by rw [HE.out]; rfl, HB1.out⟩
        | true =>
        exfalso
        rcases hor with h | h | h | h | h
        · rw [k0] at h; cases h
        · rw [k1] at h; cases h
        · rw [k2] at h; cases h
        · rw [k3] at h; cases h
        · rw [k4] at h; cases h
      | true =>
        have hq2 := okT_iff.1 hq
        simp only at hq2
        have hid := hq2.1
        have k0 : inB3 id 0 2047 = true := by unfold inB3; simp; omega
        have k1 : inB3 ev 1 1000000 = true := by unfold inB3; simp; omega
        have k2 : inB3 la 0 1000000 = true := by unfold inB3; simp; omega
        have k3 : inB3 ji 0 (ev - 1) = true := by unfold inB3; simp; omega
        have k4 : inB3 by_ 0 8 = true := by unfold inB3; simp; omega
        have hv1 : 1 ≤ ev := hq2.2.2.1
        have hv2 : ev ≤ 1000000 := hq2.2.2.2.1
        have HE : Hid (Z = if id ≤ prevT l k then 4 else chkF id (l.drop (k + 1))) := Hid.mk (by rw [HD.out, hq, if_pos rfl])
        clear hq hq2 hwv
        have HB2 := HB1
        have HT2 := HT1
        rcases Nat.eq_zero_or_pos k with hk0 | hk0
        · have HF : Hid (Z = chkF id (l.drop (k + 1))) := Hid.mk (by rw [HE.out, if_neg (by unfold prevT; rw [if_pos hk0]; omega)])
          have hd : decide ((0 : Int) < (k : Int)) = false := decide_eq_false (by omega)
          have hd1 : decide (0 < k) = false := decide_eq_false (by omega)
          have hd2 : ¬ 0 < k := by omega
          clear hk0
          go_wp2_with (go_at_fn 21; with_reducible refine (HIN.out _ _ _ _).mono ?_; rintro e wq ⟨rfl, hwq⟩; rw [hwq]; clear hwq)
          go_quiet (fail)
          go_wp2_with fail
          go_roundw
          case rel =>
            exact ⟨k + 1, by omega, by go_num, Hid.mk (by rw [HF.out, ← HPN.out]), Hid.mk (below_drD HB2.out _)⟩
          case measure => simp [intOf]; omega
        · obtain ⟨p, rfl⟩ : ∃ p, k = p + 1 := ⟨k - 1, by omega⟩
          obtain ⟨d0, -, -, -, -⟩ := HT2.out.cell x rfl p (by omega)
          obtain ⟨q, hq⟩ : ∃ q, q = (l.getD p noT).id := ⟨_, rfl⟩
          rw [← hq] at d0
          have HQ : Hid (prevT l (p + 1) = q) := Hid.mk (by rw [prevT_next, hq])
          clear hq
          have hp1 : ((p + 1 : Nat) : Int) - 1 = (p : Int) := by omega
          have hp0 : (0 : Int) < ((p + 1 : Nat) : Int) := by omega
          have hpn : (p : Int) < (n : Int) := by omega
          have hpn' : p < n := by omega
          have hdp : decide ((0 : Int) < ((p + 1 : Nat) : Int)) = true := decide_eq_true hp0
          by_cases hle : id ≤ q
          · have HF : Hid (Z = 4) := Hid.mk (by rw [HE.out, HQ.out, if_pos hle])
            go_wp2_with (go_at_fn 21; with_reducible refine (HIN.out _ _ _ _).mono ?_; rintro e wq ⟨rfl, hwq⟩; rw [hwq]; clear hwq)
            go_quiet (fail)
            go_wp2_with fail
            go_ret
            exact ⟨by rw [HF.out]; rfl, below_drD HB2.out _⟩
          · have HF : Hid (Z = chkF id (l.drop (p + 1 + 1))) := Hid.mk (by rw [HE.out, HQ.out, if_neg hle])
            go_wp2_with (go_at_fn 21; with_reducible refine (HIN.out _ _ _ _).mono ?_; rintro e wq ⟨rfl, hwq⟩; rw [hwq]; clear hwq)
            go_quiet (fail)
            go_wp2_with fail
            go_roundw
            case rel =>
              exact ⟨p + 1 + 1, by omega, by go_num, Hid.mk (by rw [HF.out, ← HPN.out]), Hid.mk (below_drD HB2.out _)⟩
            case measure => simp [intOf]; omega
    · obtain rfl : k = n := by omega
      have HF : Hid (Z = 0) := Hid.mk (by rw [HA.out, List.drop_eq_nil_of_le (by rw [HLN.out]; exact Nat.le_refl _)]; rfl)
      go_wp2_with fail
      go_ret
      exact ⟨by rw [HF.out]; rfl, HB.out⟩
end Bw
end Go.Proofs.YtnhnemmddgofnaaDoor
