/- What unfixed answers. -/
import Derived.Test.YtfomempleaceiaaDoorC6
import Derived.Test.YtfomempleaceiaaDoorC7
import Derived.Test.YtfomempleaceiaaDoorC2
import Derived.Test.YtfomempleaceiaaDoorC9
import Derived.Test.YtfomempleaceiaaDoorC3
import Derived.Test.YtfomempleaceiaaDoorC4
namespace Go.Proofs.YtfomempleaceiaaDoor
open Go.ChangeShapes Go.WideShapes Go.ChangeAt Go.RowKit
namespace Bw
open Bm Cm Go.Sort

set_option maxHeartbeats 8000000 in
theorem readForm_any (g : Nat) (b : ByteArray) (S : RS) (F : Fd) (n : Nat) (w : World) (h : RdAt w g b S F) (hc : checkE b.data.toList = 0) (hi : Inv b.data.toList S n) (hn : n ≤ 800) :
    Calls Tryd.prog 35 #[.pointer (some ⟨g, 0, none⟩)] w fun e w' =>
      e = .returned (.tuple #[]) ∧ RdAt w' g b (formP b.data.toList S F.lo F.re).1 ⟨F.id, F.lo, (formP b.data.toList S F.lo F.re).2, F.re, F.sz, F.d⟩ ∧ Tch [g] w w' := by
  have hrow := (small_of_check hc).2
  have i1 : Inv b.data.toList (takeP b.data.toList S 1).2 (n + 1) := hi.take hrow 1
  have a1 : ∀ (W : World) (F : Fd), RdAt W g b S F → _ := fun W F hW => take_any g 1 b S F W hW hc (by have := hi.n; omega)
  have a2 : ∀ (W : World) (F : Fd), RdAt W g b (takeP b.data.toList S 1).2 F → _ := fun W F hW => want_any g b ⟨#[48, 49, 48]⟩ _ F (n + 1) W hW hc i1 (by show n + 1 + 3 ≤ 1000; omega)
  have a3 : ∀ (W : World) (F : Fd), RdAt W g b (takeP b.data.toList S 1).2 F → _ := fun W F hW => want_any g b ⟨#[48]⟩ _ F (n + 1) W hW hc i1 (by show n + 1 + 1 ≤ 1000; omega)
  have a4 : ∀ (W : World) (F : Fd), RdAt W g b (takeP b.data.toList S 1).2 F → _ := fun W F hW => fail_any g b _ F 4 W hW
  rw [show (ByteArray.mk #[48, 49, 48]).data.toList = [48, 49, 48] from rfl] at a2
  rw [show (ByteArray.mk #[48]).data.toList = [48] from rfl] at a3
  unfold formP
  generalize takeP b.data.toList S 1 = A at *
  obtain ⟨t, S'⟩ := A
  simp only at a1 a2 a3 a4 ⊢
  have lT := mk_list t
  generalize ByteArray.mk t.toArray = T at *
  generalize wantP b.data.toList S' [48, 49, 48] = SA at *
  generalize wantP b.data.toList S' [48] = SB at *
  have HA1 := Hid.mk a1
  have HA2 := Hid.mk a2
  have HA3 := Hid.mk a3
  have HA4 := Hid.mk a4
  have H := Hid.mk h
  clear a1 a2 a3 a4 h hrow i1 hi hc hn
  obtain ⟨id, lo, fa, re, sz, d⟩ := F
  by_cases ht : t = [49]
  · rw [if_pos ht]
    obtain ⟨y1, y2, y3⟩ := is_yes lT ht
    clear ht lT
    cases re
    all_goals
      go_enter Tryd.func35, Tryd.ntmps35
      go_wp2_with fail
      refine (HA1.out _ _ H.out).mono ?_
      rintro e w1 ⟨rfl, h1, t1⟩
      have k6 := h1.c6
      have z6 := h1.z 6
      have h2 := h1.setFa true
      have d6 := h2.c6
      have d7 := h2.c7
      have H2 := Hid.mk h2
      have T2 := Hid.mk (t1.setK (g := g) (by simp) 6 (.bool true))
      clear h1 h2 t1 H HA1
      go_wp2_with fail
    · refine (HA2.out _ _ H2.out).mono ?_
      rintro e w3 ⟨rfl, h3, t3⟩
      go_wp2_with fail
      go_end0
      exact ⟨rfl, h3, T2.out.trans t3⟩
    · refine (HA4.out _ _ H2.out).mono ?_
      rintro e w3 ⟨rfl, h3, t3⟩
      go_wp2_with fail
      go_end0
      exact ⟨rfl, h3, T2.out.trans t3⟩
  · rw [if_neg ht]
    obtain ⟨y1, y2, y3⟩ := is_no lT ht
    clear ht lT
    cases lo
    all_goals
      go_enter Tryd.func35, Tryd.ntmps35
      go_wp2_with fail
      refine (HA1.out _ _ H.out).mono ?_
      rintro e w1 ⟨rfl, h1, t1⟩
      have k6 := h1.c6
      have z6 := h1.z 6
      have h2 := h1.setFa false
      have d6 := h2.c6
      have d7 := h2.c7
      have d5 := h2.c5
      have H2 := Hid.mk h2
      have T2 := Hid.mk (t1.setK (g := g) (by simp) 6 (.bool false))
      clear h1 h2 t1 H HA1
      go_wp2_with fail
    · go_end0
      exact ⟨rfl, H2.out, T2.out⟩
    · refine (HA3.out _ _ H2.out).mono ?_
      rintro e w3 ⟨rfl, h3, t3⟩
      go_wp2_with fail
      go_end0
      exact ⟨rfl, h3, T2.out.trans t3⟩

theorem RulesAt.tch {w w' : World} {g : Nat} (h : RulesAt w) (ht : Tch [g] w w') (hg : 0 ≠ g) : RulesAt w' := by
  have key : ∀ j v, w.cell? ⟨0, j, none⟩ = some v → w'.cell? ⟨0, j, none⟩ = some v := by
    intro j v hv
    have hlt : 0 < w.heap.size := block_lt_of_cell hv
    unfold World.cell? at hv ⊢
    rw [ht.block _ hlt (by simpa using hg)]
    exact hv
  intro k hk
  obtain ⟨h1, h2, h3, h4⟩ := h k hk
  exact ⟨key _ _ h1, key _ _ h2, key _ _ h3, key _ _ h4⟩

set_option maxHeartbeats 4000000 in
theorem readSum_any (g : Nat) (b : ByteArray) (S : RS) (F : Fd) (n : Nat) (w : World) (h : RdAt w g b S F) (hR : RulesAt w) (hc : checkE b.data.toList = 0) (hi : Inv b.data.toList S n) (hn : n ≤ 800) :
    Calls Tryd.prog 38 #[.pointer (some ⟨g, 0, none⟩)] w fun e w' =>
      e = .returned (.tuple #[]) ∧ RdAt w' g b (sumP b.data.toList S) F ∧ Tch [g] w w' := by
  have hol := hi.n
  have hOl := mk_list S.o
  have hOs := mk_size S.o
  have hso := sum_ok 0 ⟨S.o.toArray⟩ w hR (checkE_row (by rw [hOl]; exact hi.row) (by rw [hOl]; omega)) (by omega)
  rw [hOl] at hso
  have hsn : (sumL 0 S.o).length = 15 := sumL_len 0 S.o
  have hsl := mk_list (sumL 0 S.o)
  have a1 : ∀ (W : World), RdAt W g b S F → _ := fun W hW => take_any g 15 b S F W hW hc (by omega)
  have a2 : ∀ (W : World), RdAt W g b (takeP b.data.toList S 15).2 F → _ := fun W hW => fail_any g b _ F 6 W hW
  have c3 := h.c3
  unfold sumP
  generalize sumL 0 S.o = sl at *
  generalize takeP b.data.toList S 15 = A at *
  obtain ⟨t, S'⟩ := A
  simp only at a1 a2 ⊢
  have lT := mk_list t
  generalize ByteArray.mk t.toArray = T at *
  generalize ByteArray.mk sl.toArray = SU at *
  generalize ByteArray.mk S.o.toArray = O at *
  have hSz : SU.size = 15 := by rw [ba_size hsl, hsn]
  have hSi : (SU.size : Int) = ((15 : Nat) : Int) := by rw [hSz]
  rw [← hSi] at a1
  have hSm : SU.size ≤ 15 := by omega
  have hne := str_ne lT hsl
  have heq := str_eq lT hsl
  have HA1 := Hid.mk a1
  have HA2 := Hid.mk a2
  have HSO := Hid.mk hso
  have H := Hid.mk h
  clear a1 a2 hso h hsn hsl lT hSz hSi hOl hOs hol hi hn hc hR
  by_cases ht : t = sl
  · rw [if_pos ht]
    have q1 : (T.toList != SU.toList) = false := by rw [hne, ht]; simp
    have q2 : (T.toList == SU.toList) = true := by rw [heq, ht]; simp
    have q3 : T.toList = SU.toList := by simpa using q2
    clear hne heq ht
    go_enter Tryd.func38, Tryd.ntmps38
    go_wp2_with fail
    refine HSO.out.mono ?_
    rintro e w1 ⟨rfl, hb1⟩
    have H1 := Hid.mk (H.out.kept hb1)
    have T1 := Hid.mk (show Tch [g] w w1 from Tch.of hb1)
    clear hb1
    go_wp2_with fail
    refine (HA1.out _ H1.out).mono ?_
    rintro e w2 ⟨rfl, h2, t2⟩
    have H2 := Hid.mk h2
    clear h2
    go_wp2_with fail
    go_end0
    exact ⟨rfl, H2.out, T1.out.trans t2⟩
  · rw [if_neg ht]
    have q1 : (T.toList != SU.toList) = true := by rw [hne]; simp [ht]
    have q2 : (T.toList == SU.toList) = false := by rw [heq]; simp [ht]
    have q3 : ¬ T.toList = SU.toList := by simpa using q2
    clear hne heq ht
    go_enter Tryd.func38, Tryd.ntmps38
    go_wp2_with fail
    refine HSO.out.mono ?_
    rintro e w1 ⟨rfl, hb1⟩
    have H1 := Hid.mk (H.out.kept hb1)
    have T1 := Hid.mk (show Tch [g] w w1 from Tch.of hb1)
    clear hb1
    go_wp2_with fail
    refine (HA1.out _ H1.out).mono ?_
    rintro e w2 ⟨rfl, h2, t2⟩
    have H2 := Hid.mk h2
    clear h2
    go_wp2_with fail
    refine (HA2.out _ H2.out).mono ?_
    rintro e w3 ⟨rfl, h3, t3⟩
    have H3 := Hid.mk h3
    clear h3
    go_wp2_with fail
    go_end0
    exact ⟨rfl, H3.out, (T1.out.trans t2).trans t3⟩

theorem str_is {T : ByteArray} {t c : List UInt8} (hT : T.data.toList = t) : (T.toList == c) = decide (t = c) := by
  rw [ByteArray.toList_eq, hT, Bool.eq_iff_iff, beq_iff_eq, decide_eq_true_iff]
set_option maxHeartbeats 4000000 in
theorem readEnding_any (g : Nat) (b : ByteArray) (S : RS) (F : Fd) (w : World) (h : RdAt w g b S F) (h1000 : b.size ≤ 1000) (hu : S.u ≤ b.size) :
    Calls Tryd.prog 39 #[.pointer (some ⟨g, 0, none⟩)] w fun e w' =>
      e = .returned (.tuple #[]) ∧ RdAt w' g b (endP b.data.toList S) F ∧ Tch [g] w w' := by
  have a1 := nextB_any g 10 b S F w h h1000 hu (by omega)
  have a2 : ∀ (W : World), RdAt W g b (nextP b.data.toList S 10).2 F → _ := fun W hW => fail_any g b _ F 4 W hW
  unfold endP
  generalize nextP b.data.toList S 10 = A at *
  obtain ⟨t, S'⟩ := A
  simp only at a1 a2 ⊢
  have lT := mk_list t
  generalize ByteArray.mk t.toArray = T at *
  have e1 := str_is (c := onesL) lT
  have e2 := str_is (c := heardL) lT
  have HA1 := Hid.mk a1
  have HA2 := Hid.mk a2
  have H := Hid.mk h
  clear a1 a2 h lT
  by_cases h1 : t = onesL
  · rw [if_pos (.inl h1)]
    have q1 : (T.toList == onesL) = true := by rw [e1, h1]; simp
    have q2 : (T.toList != onesL) = false := by rw [bne, q1]; rfl
    have q3 : T.toList = onesL := by simpa using q1
    unfold onesL at q1 q2 q3
    clear e1 e2 h1
    go_enter Tryd.func39, Tryd.ntmps39
    go_wp2_with fail
    refine HA1.out.mono ?_
    rintro e w1 ⟨rfl, h1, t1⟩
    have H1 := Hid.mk h1
    clear h1
    go_wp2_with fail
    go_end0
    exact ⟨rfl, H1.out, t1⟩
  · have q1 : (T.toList == onesL) = false := by rw [e1]; simp [h1]
    have q2 : (T.toList != onesL) = true := by rw [bne, q1]; rfl
    have q3 : ¬ T.toList = onesL := by simpa using q1
    by_cases h2 : t = heardL
    · rw [if_pos (.inr h2)]
      have r1 : (T.toList == heardL) = true := by rw [e2, h2]; simp
      have r2 : (T.toList != heardL) = false := by rw [bne, r1]; rfl
      have r3 : T.toList = heardL := by simpa using r1
      unfold onesL at q1 q2 q3
      unfold heardL at r1 r2 r3
      clear e1 e2 h1 h2 q1 q2 q3
      go_enter Tryd.func39, Tryd.ntmps39
      go_wp2_with fail
      refine HA1.out.mono ?_
      rintro e w1 ⟨rfl, h1, t1⟩
      have H1 := Hid.mk h1
      clear h1
      go_wp2_with fail
      go_end0
      exact ⟨rfl, H1.out, t1⟩
    · rw [if_neg (by rintro (x | x); exact h1 x; exact h2 x)]
      have r1 : (T.toList == heardL) = false := by rw [e2]; simp [h2]
      have r2 : (T.toList != heardL) = true := by rw [bne, r1]; rfl
      have r3 : ¬ T.toList = heardL := by simpa using r1
      unfold onesL at q1 q2 q3
      unfold heardL at r1 r2 r3
      clear e1 e2 h1 h2
      go_enter Tryd.func39, Tryd.ntmps39
      go_wp2_with fail
      refine HA1.out.mono ?_
      rintro e w1 ⟨rfl, h1, t1⟩
      have H1 := Hid.mk h1
      clear h1
      go_wp2_with fail
      refine (HA2.out _ H1.out).mono ?_
      rintro e w2 ⟨rfl, h2, t2⟩
      have H2 := Hid.mk h2
      clear h2
      go_wp2_with fail
      go_end0
      exact ⟨rfl, H2.out, t1.trans t2⟩
end Bw
end Go.Proofs.YtfomempleaceiaaDoor
namespace Go.Proofs.YtfomempleaceiaaDoor
open Go.ChangeShapes Go.WideShapes Go.ChangeAt Go.RowKit
namespace Bw
open Bm Cm Go.Sort

theorem isBytes_ownP {w : World} {base : Nat} {v : Value} {n : Nat} {l : List UInt8} (h : w.ownsRow base 5 1 v n (cellsOf l)) :
    ∃ a cap, v = .slice a n cap ∧ IsBytes w a n cap l ∧ ∀ x, a = some x → base ≤ x.block := by
  have h0 := h
  obtain ⟨hl, h2⟩ := h
  have hn : l.length = n := by simpa [cellsOf] using hl
  rcases h2 with ⟨rfl, h1⟩ | ⟨g, cap, cur, rfl, hg, hh, hc, hm, hsz, htk⟩
  · subst h1; exact ⟨none, 0, rfl, ⟨hn, Nat.le_refl _, Nat.zero_le _, (fun _ => rfl), (fun x hx => by cases hx)⟩, fun x hx => by cases hx⟩
  · refine ⟨some ⟨g, 0, none⟩, cap, rfl, ⟨hn, hc, hm, (fun h => by cases h), fun x hx i hi => ?_⟩, fun x hx => by cases hx; exact hg⟩
    cases hx
    exact h0.cells rfl i _ (by simp [cellsOf, hn, hi])
/-- what lies in a reader's field Data, apart from the reader -/
def DataAt (w : World) (g : Nat) (d : Value) (l : List UInt8) : Prop := ∃ a len cap, d = .slice a len cap ∧ IsBytes w a len cap l ∧ ∀ x, a = some x → g < x.block
theorem DataAt.tch {w w' : World} {g : Nat} {d : Value} {l : List UInt8} (h : DataAt w g d l) (ht : Tch [g] w w') : DataAt w' g d l := by
  obtain ⟨a, len, cap, hd, hb, hg⟩ := h
  refine ⟨a, len, cap, hd, ⟨hb.1, hb.2.1, hb.2.2.1, hb.2.2.2.1, fun x hx i hi => ?_⟩, hg⟩
  have hv := hb.2.2.2.2 x hx i hi
  have hlt := block_lt_of_cell hv
  have hblk : (x.add i).block = x.block := by unfold Addr.add; split <;> rfl
  have hne : (x.add i).block ∉ [g] := by rw [hblk]; have := hg x hx; simp; omega
  unfold World.cell? at hv ⊢
  rw [ht.block _ hlt hne]
  exact hv
theorem SizesAt.tch {w w' : World} {g : Nat} (h : SizesAt w) (ht : Tch [g] w w') (hg : 1 ≠ g) : SizesAt w' := by
  intro i hi
  have hv := h i hi
  have hlt : 1 < w.heap.size := block_lt_of_cell hv
  unfold World.cell? at hv ⊢
  rw [ht.block _ hlt (by simpa using hg)]
  exact hv
theorem sizes_nat (k : Nat) (h : k < 16) : sizesI.getD k 0 = ((sizesL.getD k 0 : Nat) : Int) ∧ sizesL.getD k 0 ≤ 64 := by
  have : ∀ m : Fin 16, sizesI.getD m.val 0 = ((sizesL.getD m.val 0 : Nat) : Int) ∧ sizesL.getD m.val 0 ≤ 64 := by decide +kernel
  exact this ⟨k, h⟩
theorem topD_I (fa : Bool) : topDI fa = (topD fa : Int) := by cases fa <;> rfl
theorem take_eight (b : List UInt8) (S : RS) (D : Nat) : ∃ m, (takeP b S (8 * D)).1.length = 8 * m ∧ m ≤ D := by
  rcases takeP_len b S (8 * D) with h | h
  · exact ⟨D, h, Nat.le_refl _⟩
  · exact ⟨0, by rw [h]; rfl, Nat.zero_le _⟩

set_option maxHeartbeats 8000000 in
theorem readData_any (g : Nat) (b : ByteArray) (S : RS) (id : Int) (lo fa re : Bool) (n : Nat) (w : World) (h : RdAt w g b S ⟨id, lo, fa, re, 0, .slice none 0 0⟩) (hS : SizesAt w) (hg : 1 ≠ g) (hc : checkE b.data.toList = 0) (hi : Inv b.data.toList S n) (hn : n ≤ 400) :
    Calls Tryd.prog 36 #[.pointer (some ⟨g, 0, none⟩)] w fun e w' =>
      e = .returned (.tuple #[]) ∧ ∃ d, RdAt w' g b (dataP b.data.toList S fa re).S ⟨id, lo, fa, re, (dataP b.data.toList S fa re).sz, d⟩ ∧ DataAt w' g d (dataP b.data.toList S fa re).dt ∧ Tch [g] w w' := by
  have hrow := (small_of_check hc).2
  have i1 : Inv b.data.toList (numP b.data.toList S 4).2 (n + 4) := hi.num hrow 4
  have i2 : Inv b.data.toList (dt2 b.data.toList S fa) (n + 4) := by unfold dt2; split; exact i1.fail 4; exact i1
  have hN := numP_lt b.data.toList hrow S 4
  obtain ⟨hsz1, hsz2⟩ := sizes_nat (numP b.data.toList S 4).1 hN
  have a1 : ∀ (W : World) (F : Fd), RdAt W g b S F → _ := fun W F hW => numb_any g 4 b S F W hW hc (by have := hi.n; omega) (by omega)
  have a2 : ∀ (W : World) (F : Fd), RdAt W g b (numP b.data.toList S 4).2 F → _ := fun W F hW => fail_any g b _ F 4 W hW
  have hD : sizesL.getD (numP b.data.toList S 4).1 0 = dtN b.data.toList S := rfl
  rw [hD] at hsz1 hsz2
  have a3 : ∀ (W : World) (F : Fd), RdAt W g b (dt2 b.data.toList S fa) F → _ := fun W F hW => take_any g (8 * dtN b.data.toList S) b _ F W hW hc (by have := i2.n; omega)
  have hq2 : dt2 b.data.toList S fa = if topD fa < dtN b.data.toList S then failP (numP b.data.toList S 4).2 4 else (numP b.data.toList S 4).2 := rfl
  have hTr := takeP_row b.data.toList hrow (dt2 b.data.toList S fa) (8 * dtN b.data.toList S)
  obtain ⟨m, hm1, hm2⟩ := take_eight b.data.toList (dt2 b.data.toList S fa) (dtN b.data.toList S)
  have hsc : ∀ W, SizesAt W → W.cell? ⟨1, (numP b.data.toList S 4).1, none⟩ = some (.int .i64 (dtN b.data.toList S : Int)) := fun W hW => by
    have := hW (numP b.data.toList S 4).1 hN
    rw [hsz1] at this
    exact this
  unfold dataP
  generalize dtN b.data.toList S = D at *
  generalize numP b.data.toList S 4 = NN at *
  generalize dt2 b.data.toList S fa = S2 at *
  obtain ⟨N, S1⟩ := NN
  simp only at a1 a2 hN hq2 hsc ⊢
  have HS := Hid.mk hS
  have HA1 := Hid.mk a1
  have HA2 := Hid.mk a2
  have HA3 := Hid.mk a3
  have H := Hid.mk h
  have HSC := Hid.mk hsc
  have HG := Hid.mk hg
  have N16 : (N : Int) < 16 := by omega
  have D64 : (D : Int) ≤ 64 := by omega
  have htd := topD_I fa
  have hmd := fun W => maxData_any fa W
  have HMD := Hid.mk hmd
  have nS : DataAt w g (.slice none 0 0) [] := ⟨none, 0, 0, rfl, ⟨rfl, Nat.le_refl _, Nat.zero_le _, fun _ => rfl, fun x hx => by cases hx⟩, fun x hx => by cases hx⟩
  have HNS := Hid.mk nS
  clear a1 a2 a3 hS h hsc hrow i1 i2 hi hn hD hsz1 hsz2 hg nS hmd hN
  cases re
  · simp only [Bool.false_eq_true, if_false]
    generalize takeP b.data.toList S2 (8 * D) = A at *
    obtain ⟨t, S3⟩ := A
    simp only at HA3 hTr hm1 ⊢
    have lT := mk_list t
    generalize ByteArray.mk t.toArray = T at *
    have hby := fun W => bytes_ok T W (checkE_row (by rw [lT]; exact hTr) (by rw [lT, hm1]; omega)) m (by rw [ba_size lT, hm1])
    rw [lT] at hby
    have HBY := Hid.mk hby
    clear hby lT hTr
    have m64 : m ≤ 64 := by omega
    clear hm1 hm2
    by_cases hlt : topD fa < D
    · rw [if_pos hlt] at hq2
      have hcmp : topDI fa < (D : Int) := by rw [htd]; omega
      clear htd hlt
      go_enter Tryd.func36, Tryd.ntmps36
      go_wp2_with fail
      refine (HA1.out _ _ H.out).mono ?_
      rintro e w1 ⟨rfl, h1, t1⟩
      have cN := HSC.out _ (HS.out.tch t1 HG.out)
      have k6 := h1.c6
      have k7 := h1.c7
      have H1 := Hid.mk h1
      have T1 := Hid.mk t1
      clear h1 t1 H HA1
      go_wp2_with fail
      refine (HMD.out _).mono ?_
      rintro e w2 ⟨rfl, hw2⟩
      subst hw2
      clear HMD
      go_wp2_with fail
      refine (HA2.out _ _ H1.out).mono ?_
      rintro e w3 ⟨rfl, h3, t3⟩
      rw [← hq2] at h3
      have k7' := h3.c7
      have k8' := h3.c8
      have z8' := h3.z 8
      have k9' := h3.c9
      have z9' := h3.z 9
      have H3 := Hid.mk h3
      have T3 := Hid.mk (T1.out.trans t3)
      clear h3 t3 k6 k7 cN
      go_wp2_with fail
      rw [show (D : Int) * 8 = ((8 * D : Nat) : Int) by omega]
      refine (HA3.out _ _ H3.out).mono ?_
      rintro e w4 ⟨rfl, h4, t4⟩
      have T4 := Hid.mk (T3.out.trans t4)
      have kk9 := h4.c9
      have zz9 := h4.z 9
      have H4 := Hid.mk h4
      clear t4 h4 k7' k8' z8' k9' z9' H3 T3
      go_wp2_with fail
      refine (HBY.out _).mono ?_
      rintro e w5 ⟨v, rfl, hown, hb5⟩
      have h5 := H4.out.kept hb5
      obtain ⟨a, cap, rfl, hbv, hblk⟩ := isBytes_ownP hown
      have hlt := H4.out.lt
      have kc9 := h5.c9
      have zc9 := h5.z 9
      have T5 := Hid.mk ((T4.out.trans (Tch.of hb5)))
      have HD5 := Hid.mk (show DataAt w5 g (.slice a m cap) (bytesL t) from ⟨a, m, cap, rfl, hbv, fun x hx => by have := hblk x hx; omega⟩)
      have H5 := Hid.mk h5
      clear h5 hown hb5 hbv hblk hlt kk9 zz9
      go_wp2_with fail
      go_end0
      exact ⟨rfl, _, H5.out.setD _, HD5.out.tch ((Tch.refl _ _).setK (by simp) _ _), T5.out.setK (by simp) _ _⟩
    · rw [if_neg hlt] at hq2
      have hcmp : (D : Int) ≤ topDI fa := by rw [htd]; omega
      subst hq2
      clear htd hlt
      go_enter Tryd.func36, Tryd.ntmps36
      go_wp2_with fail
      refine (HA1.out _ _ H.out).mono ?_
      rintro e w1 ⟨rfl, h1, t1⟩
      have cN := HSC.out _ (HS.out.tch t1 HG.out)
      have k6 := h1.c6
      have k7 := h1.c7
      have k8' := h1.c8
      have z8' := h1.z 8
      have k9' := h1.c9
      have z9' := h1.z 9
      have H1 := Hid.mk h1
      have T1 := Hid.mk t1
      clear h1 t1 H HA1
      go_wp2_with fail
      refine (HMD.out _).mono ?_
      rintro e w2 ⟨rfl, hw2⟩
      subst hw2
      clear HMD
      go_wp2_with fail
      have H3 := H1
      have T3 := T1
      rw [show (D : Int) * 8 = ((8 * D : Nat) : Int) by omega]
      refine (HA3.out _ _ H3.out).mono ?_
      rintro e w4 ⟨rfl, h4, t4⟩
      have T4 := Hid.mk (T3.out.trans t4)
      have kk9 := h4.c9
      have zz9 := h4.z 9
      have H4 := Hid.mk h4
      clear t4 h4 k6 k7 cN k8' z8' k9' z9' H3 T3 H1 T1
      go_wp2_with fail
      refine (HBY.out _).mono ?_
      rintro e w5 ⟨v, rfl, hown, hb5⟩
      have h5 := H4.out.kept hb5
      obtain ⟨a, cap, rfl, hbv, hblk⟩ := isBytes_ownP hown
      have hlt := H4.out.lt
      have kc9 := h5.c9
      have zc9 := h5.z 9
      have T5 := Hid.mk ((T4.out.trans (Tch.of hb5)))
      have HD5 := Hid.mk (show DataAt w5 g (.slice a m cap) (bytesL t) from ⟨a, m, cap, rfl, hbv, fun x hx => by have := hblk x hx; omega⟩)
      have H5 := Hid.mk h5
      clear h5 hown hb5 hbv hblk hlt kk9 zz9
      go_wp2_with fail
      go_end0
      exact ⟨rfl, _, H5.out.setD _, HD5.out.tch ((Tch.refl _ _).setK (by simp) _ _), T5.out.setK (by simp) _ _⟩
  · simp only [if_true]
    clear HA3 hTr hm1 hm2
    by_cases hlt : topD fa < D
    · rw [if_pos hlt] at hq2
      have hcmp : topDI fa < (D : Int) := by rw [htd]; omega
      clear htd hlt
      go_enter Tryd.func36, Tryd.ntmps36
      go_wp2_with fail
      refine (HA1.out _ _ H.out).mono ?_
      rintro e w1 ⟨rfl, h1, t1⟩
      have cN := HSC.out _ (HS.out.tch t1 HG.out)
      have k6 := h1.c6
      have k7 := h1.c7
      have H1 := Hid.mk h1
      have T1 := Hid.mk t1
      clear h1 t1 H HA1
      go_wp2_with fail
      refine (HMD.out _).mono ?_
      rintro e w2 ⟨rfl, hw2⟩
      subst hw2
      clear HMD
      go_wp2_with fail
      refine (HA2.out _ _ H1.out).mono ?_
      rintro e w3 ⟨rfl, h3, t3⟩
      rw [← hq2] at h3
      have k7' := h3.c7
      have k8' := h3.c8
      have z8' := h3.z 8
      have k9' := h3.c9
      have z9' := h3.z 9
      have H3 := Hid.mk h3
      have T3 := Hid.mk (T1.out.trans t3)
      clear h3 t3 k6 k7 cN
      go_wp2_with fail
      (try simp only [Exit.inBlock, Exit.then]); refine bodyPost_ret (results_none rfl _ _ _) rfl ?_
      exact ⟨rfl, _, H3.out.setSz (D : Int), HNS.out.tch (T3.out.setK (by simp) 8 (.int .i64 D)), T3.out.setK (by simp) _ _⟩
    · rw [if_neg hlt] at hq2
      have hcmp : (D : Int) ≤ topDI fa := by rw [htd]; omega
      subst hq2
      clear htd hlt
      go_enter Tryd.func36, Tryd.ntmps36
      go_wp2_with fail
      refine (HA1.out _ _ H.out).mono ?_
      rintro e w1 ⟨rfl, h1, t1⟩
      have cN := HSC.out _ (HS.out.tch t1 HG.out)
      have k6 := h1.c6
      have k7 := h1.c7
      have k8' := h1.c8
      have z8' := h1.z 8
      have k9' := h1.c9
      have z9' := h1.z 9
      have H1 := Hid.mk h1
      have T1 := Hid.mk t1
      clear h1 t1 H HA1
      go_wp2_with fail
      refine (HMD.out _).mono ?_
      rintro e w2 ⟨rfl, hw2⟩
      subst hw2
      clear HMD
      go_wp2_with fail
      have H3 := H1
      have T3 := T1
      (try simp only [Exit.inBlock, Exit.then]); refine bodyPost_ret (results_none rfl _ _ _) rfl ?_
      exact ⟨rfl, _, H3.out.setSz (D : Int), HNS.out.tch (T3.out.setK (by simp) 8 (.int .i64 D)), T3.out.setK (by simp) _ _⟩
end Bw
end Go.Proofs.YtfomempleaceiaaDoor
namespace Go.Proofs.YtfomempleaceiaaDoor
open Go.ChangeShapes Go.WideShapes Go.ChangeAt Go.RowKit
namespace Bw
open Bm Cm

theorem unfixL_snoc : ∀ (x : List UInt8) (j : Nat) (c : UInt8), unfixL (x ++ [c]) j = unfixL x j ++ (if (j + x.length) % 5 = 0 then [] else [c])
  | [], j, c => by simp only [List.nil_append, unfixL, List.length_nil, Nat.add_zero]
  | d :: x, j, c => by
    rw [List.cons_append, unfixL, unfixL, unfixL_snoc x (j + 1) c, List.length_cons, show j + 1 + x.length = j + (x.length + 1) by omega]
    split <;> simp
theorem unfixL_len : ∀ (x : List UInt8) (j : Nat), (unfixL x j).length ≤ x.length
  | [], _ => Nat.le_refl _
  | d :: x, j => by
    have := unfixL_len x (j + 1)
    rw [unfixL]; split <;> simp <;> omega
theorem unfixL_row : ∀ (x : List UInt8) (j : Nat), rowB x = true → rowB (unfixL x j) = true
  | [], _, _ => rfl
  | d :: x, j, h => by
    have h' : bit d = true ∧ rowB x = true := by simpa [rowB] using h
    have := unfixL_row x (j + 1) h'.2
    rw [unfixL]
    split
    · exact this
    · simp [rowB] at this ⊢
      exact ⟨h'.1, this⟩
set_option maxHeartbeats 4000000 in
set_option maxRecDepth 100000 in
theorem unfixed_any (s : ByteArray) (w : World) (hs : s.size ≤ 1000) :
    Calls Tryd.prog 66 #[.string s] w fun e w' => e = .returned (.string ⟨(unfixL s.data.toList 0).toArray⟩) ∧ Below w.heap.size w w' := by
  obtain ⟨i0, hi, hz0, hz1, hz2⟩ := info_parts info_u8
  have hll : s.data.toList.length = s.size := by simp
  have HLL := Hid.mk hll
  clear hll
  go_enter Tryd.func66, Tryd.ntmps66
  go_wp2_with fail
  go_loopw [3, 7] (fun r i wr => ∃ k : Nat, k ≤ s.size ∧ i = .int .i64 k ∧ wr.ownsRow w.heap.size 5 1 r (unfixL (s.data.toList.take k) 0).length (cellsOf (unfixL (s.data.toList.take k) 0)) ∧ Below w.heap.size w wr) (fun _ i _ => s.size - (intOf i).toNat)
  case atStart => exact ⟨0, Nat.zero_le _, rfl, World.ownsRow_nil _ _ _ _, Below.refl _ _⟩
  case round =>
    obtain ⟨k, hk, rfl, hown, hbel⟩ := hrel
    by_cases hlt : k < s.size
    · have hlt' : (k : Int) < (s.size : Int) := by omega
      obtain ⟨c, hcE⟩ : ∃ c, c = s[k] := ⟨_, rfl⟩
      have hgd : s.data.toList.getD k 0 = c := by rw [hcE, at_getD s k hlt]
      have hcv : s[k] = c := hcE.symm
      have hnx : unfixL (s.data.toList.take (k + 1)) 0 = unfixL (s.data.toList.take k) 0 ++ (if k % 5 = 0 then [] else [c]) := by
        rw [take_snocL _ _ (by rw [HLL.out]; exact hlt), unfixL_snoc, hgd, List.length_take, HLL.out, Nat.zero_add, Nat.min_eq_left hk]
      have hol := unfixL_len (s.data.toList.take k) 0
      rw [List.length_take, HLL.out] at hol
      generalize unfixL (s.data.toList.take k) 0 = o at *
      have hol2 : o.length ≤ 1000 := by omega
      have HNX := Hid.mk hnx
      clear hcE hgd hnx hol
      by_cases h5 : k % 5 = 0
      · have hm : (k : Int).tmod 5 = 0 := by rw [Int.tmod_eq_emod_of_nonneg (by omega)]; omega
        have HO := Hid.mk hown
        clear hown
        go_wp2_with fail
        go_roundw
        case rel => exact ⟨k + 1, by omega, by go_num, by rw [HNX.out, if_pos h5, List.append_nil]; exact HO.out, hbel⟩
        case measure => simp [intOf]; omega
      · have hm : ((k : Int).tmod 5 != 0) = true := by rw [Int.tmod_eq_emod_of_nonneg (by omega)]; simp; omega
        have hm2 : ((k : Int).tmod 5 == 0) = false := by rw [Int.tmod_eq_emod_of_nonneg (by omega)]; rw [beq_eq_false_iff_ne]; omega
        have hm3 : ¬ (k : Int).tmod 5 = 0 := by simpa using hm
        have hsz := hbel.size
        go_wp2_with (at_builtin; refine wpList_append_own _ rfl (.tmp 13) (.tmp 17) 28 rfl w.heap.size 5 i0 (.int .u8 0) 1 1 Tryd.underlying28 hi hz0 hz1 hz2 rfl (by decide) _ _ _ rfl (hown.alloc _) ⟨wr.heap.size, 0, none⟩ 1 1 [Value.int .u8 c.toNat] rfl rfl (by intro q u hq; match q, hq with | 0, hq => (simp at hq; subst hq; simp [Addr.add])) (by intro u hu; simp at hu; subst hu; rfl) (by unfold maxLen; omega) (by omega) (by simp; omega) ?_; intro v1 w3 hown1 hgrow1 _)
        have hbw3 : Below w.heap.size wr w3 := Below.grown ((Below.refl _ _).alloc hsz _) hgrow1 (by simp; omega) (fun q hq => (hown.lt q hq).1)
        have hbel3 := hbel.trans hbw3
        have hown1' : w3.ownsRow w.heap.size 5 1 v1 (o ++ [c]).length (cellsOf (o ++ [c])) := by
          rw [cellsOf_append, List.length_append]; exact hown1
        have HO := Hid.mk hown1'
        clear hown hown1 hown1' hgrow1 hbw3 hbel hsz
        go_wp2_with fail
        go_roundw
        case rel => exact ⟨k + 1, by omega, by go_num, by rw [HNX.out, if_neg h5]; exact HO.out, hbel3⟩
        case measure => simp [intOf]; omega
    · have e : k = s.size := by omega
      subst e
      rw [List.take_of_length_le (by rw [HLL.out]; exact Nat.le_refl _)] at hown
      have hcv := convert_own hown
      clear hown
      go_wp2_with fail
      go_ret
      exact ⟨rfl, hbel⟩
end Bw
end Go.Proofs.YtfomempleaceiaaDoor
