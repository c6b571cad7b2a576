/- What delay.Check answers. -/
import Derived.Test.YtnhnemmddgofnaaDoorDlSmall
import Derived.BigQuiet
namespace Go.Proofs.YtnhnemmddgofnaaDoor
open Go.ChangeShapes Go.WideShapes Go.ChangeAt Go.RowKit
namespace Bw
set_option linter.unusedVariables false
theorem prevT_next (l : List Tk) (k : Nat) : prevT l (k + 1) = (l.getD k noT).id := by unfold prevT; rw [if_neg (by omega)]; rfl
set_option maxHeartbeats 4000000 in
set_option maxRecDepth 100000 in
theorem dcheck_any (a : Option Addr) (n c : Nat) (l : List Tk) (w : World) (hT : IsTks w a n c l) :
    Calls Tryd.prog 16 #[.slice a n c] w fun e w' => e = .returned (.int .i64 (chkT l)) ∧ Below w.heap.size w w' := by
  have hn63 := mlenD (Nat.le_trans hT.le hT.max)
  have HT := Hid.mk hT
  have hl := hT.len
  unfold chkT
  rw [hl]
  clear hT
  by_cases h20 : 20 < n
  · rw [if_pos h20]
    have h20' : (20 : Int) < (n : Int) := by omega
    go_enter Tryd.func16, Tryd.ntmps16
    go_wp2_with fail
    go_ret
    exact ⟨rfl, Below.refl _ _⟩
  rw [if_neg h20]
  have h20' : ¬ ((20 : Int) < (n : Int)) := by omega
  obtain ⟨Z, hZ⟩ : ∃ Z : Int, Z = chkF (-1) l := ⟨_, rfl⟩
  rw [← hZ]
  have HZE := Hid.mk hZ
  have HLN := Hid.mk hl
  clear hZ hl
  go_enter Tryd.func16, Tryd.ntmps16
  go_wp2_with fail
  go_loopw [10] (fun i wr => ∃ k : Nat, k ≤ n ∧ i = .int .i64 k ∧ Hid (Z = chkF (prevT l k) (l.drop k)) ∧ Hid (Below w.heap.size w wr)) (fun i _ => n - (intOf i).toNat)
  case atStart => exact ⟨0, Nat.zero_le _, rfl, Hid.mk (by rw [HZE.out]; rfl), Hid.mk (Below.refl _ _)⟩
  case round =>
    obtain ⟨k, hk, rfl, HA, HB⟩ := hrel
    by_cases hlt : k < n
    · have hlt' : (k : Int) < (n : Int) := by omega
      obtain ⟨x, rfl⟩ := HT.out.some hlt
      obtain ⟨c0, c1, c2, c3, c4⟩ := (HT.out.kept HB.out).cell x rfl k hlt
      obtain ⟨r, hr⟩ : ∃ r, r = l.getD k noT := ⟨_, rfl⟩
      rw [← hr] at c0 c1 c2 c3 c4
      have HD : Hid (Z = if okT r = true then (if r.id ≤ prevT l k then 4 else chkF r.id (l.drop (k + 1))) else 3) := Hid.mk (by rw [HA.out, drop_consT (by rw [HLN.out]; exact hlt), ← hr, chkF])
      have HPN : Hid (prevT l (k + 1) = r.id) := Hid.mk (by rw [prevT_next, hr])
      have hb1 := awD wr (tkC r)
      have HB1 := Hid.mk (bl2 HB.out hb1)
      have HV := Hid.mk (TkAt.new wr r)
      have HT1 := Hid.mk ((HT.out.kept HB.out).kept hb1)
      have HC := Hid.mk (isWrong_any r (wr.alloc (tkC r)))
      clear hr hb1
      obtain ⟨id, by_, ev, la, ji⟩ := r
      unfold tkC at HB1 HV HT1 HC
      unfold Tk.val at HC
      simp only at c0 c1 c2 c3 c4 HB1 HV HT1 HC HD HPN
      go_wp2_with fail
      generalize wr.alloc (.cells #[.int .i64 id, .int .i64 by_, .int .i64 ev, .int .i64 la, .int .i64 ji] 31) = W1 at *
      obtain ⟨g0, g1, g2, g3, g4⟩ := HV.out
      simp only at g0 g1 g2 g3 g4
      cases hq : okT ⟨id, by_, ev, la, ji⟩ with
      | false =>
        rw [hq] at HC
        have HE : Hid (Z = 3) := Hid.mk (by rw [HD.out, hq, if_neg (by simp)])
        clear hq
        refine HC.out.mono ?_
        rintro e w2 ⟨rfl, hb2⟩
        have HB2 := Hid.mk (bl2 HB1.out hb2)
        clear hb2
        go_wp2_with fail
        go_ret
        exact ⟨by rw [HE.out]; rfl, HB2.out⟩
      | true =>
        rw [hq] at HC
        have hid := (okT_iff.1 hq).1
        simp only at hid
        have HE : Hid (Z = if id ≤ prevT l k then 4 else chkF id (l.drop (k + 1))) := Hid.mk (by rw [HD.out, hq, if_pos rfl])
        clear hq
        refine HC.out.mono ?_
        rintro e w2 ⟨rfl, hb2⟩
        have HB2 := Hid.mk (bl2 HB1.out hb2)
        obtain ⟨g0, g1, g2, g3, g4⟩ := HV.out.kept hb2
        simp only at g0 g1 g2 g3 g4
        have HT2 := Hid.mk (HT1.out.kept hb2)
        clear hb2 HC
        rcases Nat.eq_zero_or_pos k with hk0 | hk0
        · subst hk0
          have HF : Hid (Z = chkF id (l.drop (0 + 1))) := Hid.mk (by rw [HE.out, if_neg (by unfold prevT; rw [if_pos rfl]; omega)])
          have hd : decide ((0 : Int) < 0) = false := by decide
          go_wp2_with fail
          go_quiet (fail)
          go_wp2_with fail
          go_roundw
          case rel =>
            exact ⟨1, by omega, by go_num, Hid.mk (by rw [HF.out, ← HPN.out]), Hid.mk (below_drD HB2.out _)⟩
          case measure => simp [intOf]; omega
        · obtain ⟨p, rfl⟩ : ∃ p, k = p + 1 := ⟨k - 1, by omega⟩
          obtain ⟨d0, -, -, -, -⟩ := HT2.out.cell x rfl p (by omega)
          obtain ⟨q, hq⟩ : ∃ q, q = (l.getD p noT).id := ⟨_, rfl⟩
          rw [← hq] at d0
          have HQ : Hid (prevT l (p + 1) = q) := Hid.mk (by rw [prevT_next, hq])
          clear hq
          have hp1 : ((p + 1 : Nat) : Int) - 1 = (p : Int) := by omega
          have hp0 : (0 : Int) < ((p + 1 : Nat) : Int) := by omega
          have hpn : (p : Int) < (n : Int) := by omega
          have hpn' : p < n := by omega
          have hdp : decide ((0 : Int) < ((p + 1 : Nat) : Int)) = true := decide_eq_true hp0
          by_cases hle : id ≤ q
          · have HF : Hid (Z = 4) := Hid.mk (by rw [HE.out, HQ.out, if_pos hle])
            go_wp2_with fail
            go_quiet (fail)
            go_wp2_with fail
            go_ret
            exact ⟨by rw [HF.out]; rfl, below_drD HB2.out _⟩
          · have HF : Hid (Z = chkF id (l.drop (p + 1 + 1))) := Hid.mk (by rw [HE.out, HQ.out, if_neg hle])
            go_wp2_with fail
            go_quiet (fail)
            go_wp2_with fail
            go_roundw
            case rel =>
              exact ⟨p + 1 + 1, by omega, by go_num, Hid.mk (by rw [HF.out, ← HPN.out]), Hid.mk (below_drD HB2.out _)⟩
            case measure => simp [intOf]; omega
    · obtain rfl : k = n := by omega
      have HF : Hid (Z = 0) := Hid.mk (by rw [HA.out, List.drop_eq_nil_of_le (by rw [HLN.out]; exact Nat.le_refl _)]; rfl)
      go_wp2_with fail
      go_ret
      exact ⟨by rw [HF.out]; rfl, HB.out⟩
end Bw
end Go.Proofs.YtnhnemmddgofnaaDoor
