/- What package part's Send answers. -/
import Derived.Test.YtgjnfmbmndnihaaPtSendM
import Derived.Test.YtgjnfmbmndnihaaPtNext
import Derived.Test.YtgjnfmbmndnihaaPtBegin
namespace Go.Proofs.Ytgjnfmbmndnihaa
open Go.ChangeShapes Go.WideShapes Go.ChangeAt Go.RowKit
namespace Bw
open Bm
set_option linter.unusedVariables false
set_option maxHeartbeats 2000000 in
theorem send_range (a : Option Addr) (len cap : Nat) (block : Int) (w : World) (h : inP block 0 255 = false) :
    Calls Try.prog 26 #[.slice a len cap, .int .i64 block] w fun e w' => e = .returned (.tuple #[.slice none 0 0, .int .i64 0, .int .i64 3]) ∧ w' = w := by
  have hW := fun W => pwithin_any block 0 255 W
  rw [h] at hW
  clear h
  go_enter Try.func26, Try.ntmps26
  go_wp2_with fail
  refine (hW _).mono ?_
  rintro e w1 ⟨rfl, hw1⟩
  rw [hw1]
  clear hw1
  go_wp2_with fail
  go_ret3
  exact ⟨rfl, rfl⟩
set_option maxHeartbeats 2000000 in
set_option maxRecDepth 100000 in
theorem send_bad (a : Option Addr) (len cap : Nat) (block : Int) (w : World) (h : inP block 0 255 = true) (hl : len ≤ maxLen) (hE : szP len ≠ 0) :
    Calls Try.prog 26 #[.slice a len cap, .int .i64 block] w fun e w' => e = .returned (.tuple #[.slice none 0 0, .int .i64 0, .int .i64 (szP len)]) ∧ Below w.heap.size w w' := by
  have hW := fun W => pwithin_any block 0 255 W
  rw [h] at hW
  have HBG := Hid.mk (begin_bad a len cap w hl hE)
  have hne : (szP len != 0) = true := by simpa using hE
  unfold sdV at HBG
  clear h hl hE
  generalize szP len = E at *
  go_enter Try.func26, Try.ntmps26
  go_wp2_with fail
  refine (hW _).mono ?_
  rintro e w1 ⟨rfl, hw1⟩
  rw [hw1]
  clear hw1
  go_wp2_with fail
  refine HBG.out.mono ?_
  rintro e w1 ⟨rfl, hb1⟩
  have HB1 := Hid.mk (bl2 hb1 (awG w1 (.cells #[.slice none 0 0, .int .i64 0, .int .i64 0, .int .i64 0, .bool false] 28)))
  clear hb1 HBG
  go_wp2_with fail
  go_ret3
  exact ⟨rfl, HB1.out⟩
theorem told_flow (x y : Addr) (n cap k b mc : Nat) (l : List UInt8) (w : World) (hb : b ≤ 255) (hk : k < nxN n) (h3 : n ≤ 300) (hD : IsBytes w (some x) n cap l) (hA : IsBytes w (some y) 3 mc (flowL b)) :
    Calls Try.prog 17 #[sdV (some x) n cap ((6 + 7 * k : Nat) : Int) (((k + 1) % 16 : Nat) : Int) (-1) false, .slice (some y) 3 mc] w fun e w' => ∃ g c, e = .returned (.tuple #[sdV (some ⟨g, 0, none⟩) n c ((6 + 7 * k : Nat) : Int) (((k + 1) % 16 : Nat) : Int) (b : Int) false, .int .i64 0]) ∧ w.heap.size ≤ g ∧ IsBytes w' (some ⟨g, 0, none⟩) n c l ∧ Below w.heap.size w w' := by
  have hy0 := hA.2.2.2.2 y rfl 0 (by omega)
  rw [add0P] at hy0
  have hy1 := hA.2.2.2.2 y rfl 1 (by omega)
  rw [add1P] at hy1
  have e1 : ((flowL b).getD 1 0).toNat = b := toN (show b < 256 by omega)
  rw [e1] at hy1
  have hn := nx_lt hk
  exact told_go (some x) n cap _ _ (some y) 3 mc w (Nat.le_trans hD.2.1 hD.2.2.1) (by unfold maxLen; omega) (sdE_mid hk h3 ⟨by omega, by omega⟩) x l rfl hD (by omega) h3 b (by omega) (fun y' h => by cases h; exact hy1) y rfl rfl hy0
theorem next_send (x : Addr) (n cap k : Nat) (left : Int) (l : List UInt8) (w : World) (hk : k < nxN n) (h3 : n ≤ 300) (hl : 0 ≤ left ∧ left ≤ 255) (hD : IsBytes w (some x) n cap l) :
    Calls Try.prog 18 #[sdV (some x) n cap ((6 + 7 * k : Nat) : Int) (((k + 1) % 16 : Nat) : Int) left false] w fun e w' => ∃ g c gp cp v1 v3, e = .returned (.tuple #[sdV (some ⟨g, 0, none⟩) n c v1 (((k + 1 + 1) % 16 : Nat) : Int) v3 (decide (nxN n ≤ k + 1)), .slice (some ⟨gp, 0, none⟩) (npL l (6 + 7 * k)).length cp, .int .i64 0]) ∧ (k + 1 < nxN n → v1 = ((6 + 7 * (k + 1) : Nat) : Int) ∧ v3 = lbI left) ∧ w.heap.size ≤ g ∧ w.heap.size ≤ gp ∧ IsBytes w' (some ⟨g, 0, none⟩) n c l ∧ IsBytes w' (some ⟨gp, 0, none⟩) (npL l (6 + 7 * k)).length cp (npL l (6 + 7 * k)) ∧ Below w.heap.size w w' := by
  obtain ⟨h7, hat⟩ := nx_lt hk
  have hlast := nx_last hk
  have hmod : ((k + 1) % 16 + 1) % 16 = (k + 1 + 1) % 16 := by omega
  by_cases hl1 : k + 1 = nxN n
  · refine (next_last (some x) n cap (6 + 7 * k) ((k + 1) % 16) left w (Nat.le_trans hD.2.1 hD.2.2.1) (sdE_mid hk h3 ⟨by omega, by omega⟩) (by omega) (by omega) (by omega) (by omega) x l rfl hD hat h3 (hlast.1 hl1)).mono ?_
    rintro e w' ⟨g, c, gp, cp, rfl, hg, hgp, hY, hP, hb⟩
    refine ⟨g, c, gp, cp, (n : Int), 0, ?_, fun h => by omega, hg, hgp, hY, hP, hb⟩
    rw [show decide (nxN n ≤ k + 1) = true by simp; omega, hmod]
  · refine (next_more (some x) n cap (6 + 7 * k) ((k + 1) % 16) left w (Nat.le_trans hD.2.1 hD.2.2.1) (sdE_mid hk h3 ⟨by omega, by omega⟩) (by omega) (by omega) (by omega) (by omega) x l rfl hD hat h3 (by have := fun h => hl1 (hlast.2 h); omega)).mono ?_
    rintro e w' ⟨g, c, gp, cp, rfl, hg, hgp, hY, hP, hb⟩
    refine ⟨g, c, gp, cp, ((6 + 7 * k + 7 : Nat) : Int), lbI left, ?_, fun h => ⟨by congr 1, rfl⟩, hg, hgp, hY, hP, hb⟩
    rw [show decide (nxN n ≤ k + 1) = false by simp; omega, hmod]
/-- bytes that lie apart from two blocks -/
def FarB (gs gg : Nat) (w : World) (o : Option Addr) (n c : Nat) (l : List UInt8) : Prop := IsBytes w o n c l ∧ (0 < n → ∀ y, o = some y → y.block ≠ gs ∧ y.block ≠ gg)
theorem isBytes_none {w w' : World} {o : Option Addr} {n c : Nat} {l : List UInt8} (h : IsBytes w o n c l) (h0 : n = 0) : IsBytes w' o n c l := ⟨h.1, h.2.1, h.2.2.1, h.2.2.2.1, fun y hy i hi => by omega⟩
theorem isBytes_pos5 {w : World} {o : Option Addr} {n c : Nat} {l : List UInt8} (h : IsBytes w o n c l) {g : Nat} (hg : 0 < n → ∀ x, o = some x → x.block ≠ g) (a b c' d e : Value) : IsBytes (set5 w g a b c' d e) o n c l := by
  rcases Nat.eq_zero_or_pos n with h0 | h0
  · exact isBytes_none h h0
  · exact isBytes_set5' h (hg h0) _ _ _ _ _
theorem FarB.kept {gs gg : Nat} {w w' : World} {o : Option Addr} {n c : Nat} {l : List UInt8} (h : FarB gs gg w o n c l) (hb : Below w.heap.size w w') : FarB gs gg w' o n c l := ⟨isBytes_below h.1 hb, h.2⟩
theorem FarB.setS {gs gg : Nat} {w : World} {o : Option Addr} {n c : Nat} {l : List UInt8} (h : FarB gs gg w o n c l) (a b c' d e : Value) : FarB gs gg (Bw.set5 w gs a b c' d e) o n c l :=
  ⟨isBytes_pos5 h.1 (fun h0 x hx => (h.2 h0 x hx).1) _ _ _ _ _, h.2⟩
theorem FarB.setG {gs gg : Nat} {w : World} {o : Option Addr} {n c : Nat} {l : List UInt8} (h : FarB gs gg w o n c l) (a b c' d e : Value) : FarB gs gg (Bw.set5 w gg a b c' d e) o n c l :=
  ⟨isBytes_pos5 h.1 (fun h0 x hx => (h.2 h0 x hx).2) _ _ _ _ _, h.2⟩
theorem FB.far {w w' : World} {o : Option Addr} {n c : Nat} {l : List UInt8} (h : FB w w' o n c l) {gs gg : Nat} (h1 : gs < w.heap.size) (h2 : gg < w.heap.size ∨ w'.heap.size ≤ gg) : FarB gs gg w' o n c l := ⟨h.1, fun h0 y hy => by
  have h3 := h.2 y hy
  subst hy
  have h4 := isBytes_lt h.1 h0
  omega⟩
theorem far_fresh {w w' : World} {g n c : Nat} {l : List UInt8} (h : IsBytes w' (some ⟨g, 0, none⟩) n c l) (hg : w.heap.size ≤ g) {gs gg : Nat} (h1 : gs < w.heap.size) (h2 : gg < w.heap.size) : FarB gs gg w' (some ⟨g, 0, none⟩) n c l := ⟨h, fun _ y hy => by cases hy; exact ⟨by simp; omega, by simp; omega⟩⟩
theorem set5_size (w : World) (g : Nat) (a b c d e : Value) : (set5 w g a b c d e).heap.size = w.heap.size := by unfold set5; simp
/-- what holds behind k next parts -/
structure SndS (w wr : World) (gs gg n b : Nat) (l : List UInt8) (k : Nat) (got ans : Value) : Prop where
  below : Below w.heap.size w wr
  snd : ∃ x c v1 v2 v3, Row5 wr gs 28 (.slice (some x) n c) (.int .i64 v1) (.int .i64 v2) (.int .i64 v3) (.bool (decide (nxN n ≤ k))) ∧ (k < nxN n → v1 = ((6 + 7 * k : Nat) : Int) ∧ v2 = (((k + 1) % 16 : Nat) : Int) ∧ v3 = sLf b k) ∧ FarB gs gg wr (some x) n c l
  gtr : ∃ o m c, Row5 wr gg 44 (.int .i64 (gX b l k).want) (.slice o m c) (.int .i64 (gX b l k).next) (.int .i64 (gX b l k).block) (.int .i64 (gX b l k).left) ∧ FarB gs gg wr o m c (gX b l k).dt
  ans' : ∃ o m c, ans = .slice o m c ∧ FarB gs gg wr o m c (gX b l k).ans
  got' : ∃ o m c, got = .slice o m c ∧ FarB gs gg wr o m c (gX b l k).whole
theorem gX_e (b : Nat) (l : List UInt8) (k : Nat) : (gX b l k).e = 0 := by unfold gX; split <;> rfl
set_option maxHeartbeats 8000000 in
set_option maxRecDepth 100000 in
theorem send_ok (x : Addr) (len cap b : Nat) (l : List UInt8) (w : World) (hD : IsBytes w (some x) len cap l) (h1 : 1 ≤ len) (h3 : len ≤ 300) (hb : b ≤ 255) :
    Calls Try.prog 26 #[.slice (some x) len cap, .int .i64 b] w fun e w' => ∃ o m c, e = .returned (.tuple #[.slice o m c, .int .i64 (pcN b (nxN len)), .int .i64 0]) ∧ IsBytes w' o m c l ∧ Below w.heap.size w w' := by
  have hll : l.length = len := hD.1
  have hW := fun W => pwithin_any (b : Int) 0 255 W
  simp only [show inP (b : Int) 0 255 = true from inP_yes ⟨by omega, by omega⟩] at hW
  have HBG := Hid.mk (begin_ok x len cap l w hD h1 h3)
  have HG0 : Hid (∀ W gp cp, IsBytes W (some ⟨gp, 0, none⟩) (fpL l).length cp (fpL l) → Calls Try.prog 21 #[gtV 0 none 0 0 0 (b : Nat) 0, .slice (some ⟨gp, 0, none⟩) (fpL l).length cp] W fun e w' => Got (gX b l 0) W w' e) := Hid.mk (fun W gp cp hY => by
    have h := get_any 0 none 0 0 0 (b : Nat) 0 (some ⟨gp, 0, none⟩) _ cp [] (fpL l) W ⟨rfl, Nat.le_refl _, Nat.zero_le _, fun _ => rfl, fun y hy => by cases hy⟩ hY
    rw [getX_first (gtE_yes ⟨by omega, by omega⟩ ⟨by omega, by omega⟩ ⟨by omega, by omega⟩ ⟨by omega, by omega⟩ rfl) (by omega) (by omega)] at h
    exact h)
  have HX0 := Hid.mk (gX_e b l 0)
  have hbI : (b : Int) ≤ 255 := by omega
  have HHB := Hid.mk hb
  have HH3 := Hid.mk h3
  have HLL := Hid.mk hll
  unfold gtV at HG0
  unfold sdV at HBG
  clear hD hll hb
  generalize hFL : fpL l = FL at *
  clear hFL
  have hs0 : 0 < nxN len → inF len = 6 ∧ lfB len = -1 := by
    intro h
    have := nx_lt h
    exact ⟨by unfold inF; rw [if_neg (by omega)], by unfold lfB; rw [if_neg (by omega)]⟩
  have hd0 : decide (len ≤ 7) = decide (nxN len ≤ 0) := by
    congr 1
    apply propext
    unfold nxN
    split <;> omega
  rw [hd0] at HBG
  have HS0 := Hid.mk hs0
  clear hs0 hd0
  obtain ⟨F, hF⟩ : ∃ F, F = inF len := ⟨_, rfl⟩
  obtain ⟨LF, hLF⟩ : ∃ LF, LF = lfB len := ⟨_, rfl⟩
  obtain ⟨D0, hD0⟩ : ∃ D0, D0 = decide (nxN len ≤ 0) := ⟨_, rfl⟩
  rw [← hF, ← hLF, ← hD0] at HBG
  rw [← hF, ← hLF] at HS0
  have HD0 := Hid.mk hD0
  clear hF hLF hD0
  go_enter Try.func26, Try.ntmps26
  go_wp2_with fail
  refine (hW _).mono ?_
  rintro e w1 ⟨rfl, hw1⟩
  rw [hw1]
  clear hw1 hW
  go_wp2_with fail
  refine HBG.out.mono ?_
  rintro e w1 ⟨g, c, gp, cp, rfl, hg, hY, hP, hb1⟩
  have hal := awG w1 (.cells #[.slice (some ⟨g, 0, none⟩) len c, .int .i64 (F : Int), .int .i64 1, .int .i64 LF, .bool D0] 28)
  have HY2 := Hid.mk (isBytes_below hY hal)
  have HP2 := Hid.mk (isBytes_below hP hal)
  have HB2 := Hid.mk (bl2 hb1 hal)
  have HR2 := Hid.mk (Row5.new w1 28 (.slice (some ⟨g, 0, none⟩) len c) (.int .i64 (F : Int)) (.int .i64 1) (.int .i64 LF) (.bool D0))
  have HW1 : Hid (w.heap.size ≤ w1.heap.size) := Hid.mk hb1.size
  have HG : Hid (g < w1.heap.size) := Hid.mk (isBytes_lt hY (by omega))
  clear hg hY hP hb1 hal HBG
  go_wp2_with fail
  generalize w1.alloc (.cells #[.slice (some ⟨g, 0, none⟩) len c, .int .i64 (F : Int), .int .i64 1, .int .i64 LF, .bool D0] 28) = W2 at *
  refine (HG0.out _ _ _ HP2.out).mono ?_
  rintro e w3 ⟨o1, n1, e1, o2, n2, e2, o3, n3, e3, rfl, hf1, hf2, hf3, hwn, hb3⟩
  rw [HX0.out]
  unfold gtV
  have hal := awG w3 (.cells #[.int .i64 (gX b l 0).want, .slice o1 n1 e1, .int .i64 (gX b l 0).next, .int .i64 (gX b l 0).block, .int .i64 (gX b l 0).left] 44)
  have hR4 := (HR2.out.kept hb3).kept hal
  have hQ4 := Row5.new w3 44 (.int .i64 (gX b l 0).want) (.slice o1 n1 e1) (.int .i64 (gX b l 0).next) (.int .i64 (gX b l 0).block) (.int .i64 (gX b l 0).left)
  have hs1 := HR2.out.lt
  have hs2 := hb3.size
  have HINV : Hid (SndS w (w3.alloc (.cells #[.int .i64 (gX b l 0).want, .slice o1 n1 e1, .int .i64 (gX b l 0).next, .int .i64 (gX b l 0).block, .int .i64 (gX b l 0).left] 44)) w1.heap.size w3.heap.size len b l 0 (.slice o3 n3 e3) (.slice o2 n2 e2)) := Hid.mk ⟨bl2 (bl2 HB2.out hb3) hal, ⟨⟨g, 0, none⟩, c, (F : Int), 1, LF, by rw [← HD0.out]; exact hR4, (fun h => by
      have h2 := HS0.out h
      rw [h2.1, h2.2]
      exact ⟨rfl, rfl, (sLf_ask (by unfold asks; simp)).symm⟩), isBytes_below (isBytes_below HY2.out hb3) hal, (fun _ y hy => by cases hy; have := HG.out; simp; omega)⟩, ⟨o1, n1, e1, hQ4, (hf1.far hs1 (Or.inr (Nat.le_refl _))).kept hal⟩, ⟨o2, n2, e2, rfl, (hf2.far hs1 (Or.inr (Nat.le_refl _))).kept hal⟩, ⟨o3, n3, e3, rfl, (hf3.far hs1 (Or.inr (Nat.le_refl _))).kept hal⟩⟩
  have HGG : Hid (w.heap.size ≤ w1.heap.size ∧ w.heap.size ≤ w3.heap.size ∧ w1.heap.size ≠ w3.heap.size) := Hid.mk ⟨HW1.out, by have := HW1.out; omega, by omega⟩
  clear hal hR4 hQ4 hs1 hs2 hf1 hf2 hf3 hwn hb3 HR2 HB2 HP2 HY2 HG0 HW1 HG HS0 HD0 HX0
  go_wp2_with fail
  generalize w3.alloc (.cells #[.int .i64 (gX b l 0).want, .slice o1 n1 e1, .int .i64 (gX b l 0).next, .int .i64 (gX b l 0).block, .int .i64 (gX b l 0).left] 44) = W4 at *
  generalize w1.heap.size = gs at *
  generalize w3.heap.size = gg at *
  go_loopw [4, 5, 6, 8, 10] (fun v4 v5 v6 v8 v10 wr => ∃ k : Nat, k ≤ nxN len ∧ v5 = .int .i64 (pcN b k : Int) ∧ v6 = .int .i64 0 ∧ Hid (SndS w wr gs gg len b l k v4 v10)) (fun _ v5 _ _ _ _ => 1000 - (intOf v5).toNat)
  case atStart => exact ⟨0, Nat.zero_le _, rfl, rfl, HINV⟩
  case round =>
    obtain ⟨k, hk, rfl, rfl, HI⟩ := hrel
    obtain ⟨hBel, ⟨sx, sc, v1, v2, v3, hR, hv, hFs⟩, ⟨go, gm, gc, hQ, hFg⟩, ⟨ao, am, ac, rfl, hFa⟩, ⟨tp, tm, tc, rfl, hFt⟩⟩ := HI.out
    have hpk : pcN b k ≤ 2 + k + k := by
      unfold pcN
      split
      · omega
      · have := Nat.div_le_self (k - 1) b
        split <;> omega
    have hK42 := nx_le len HH3.out
    by_cases hlt : k < nxN len
    · obtain ⟨rfl, rfl, rfl⟩ := hv hlt
      have hat := nx_lt hlt
      have hgx : gX b l k = ⟨(len : Nat), ((k + 1) % 16 : Nat), (b : Nat), (gLf b k : Nat), l.take (6 + 7 * k), ansL b k, [], 0⟩ := by
        unfold gX
        rw [HLL.out, if_pos hlt]
      rw [hgx] at hQ hFg hFa
      simp only at hQ hFg hFa
      rw [show decide (nxN len ≤ k) = false by simp; omega] at hR
      obtain ⟨hgs, hgg, hne⟩ := HGG.out
      have HNX := Hid.mk (fun X c W left (hl : 0 ≤ left ∧ left ≤ 255) (h : IsBytes W (some X) len c l) => next_send X len c k left l W hlt HH3.out hl h)
      have HGT : Hid (∀ W gp cp, IsBytes W go gm gc (l.take (6 + 7 * k)) → IsBytes W (some ⟨gp, 0, none⟩) (npL l (6 + 7 * k)).length cp (npL l (6 + 7 * k)) → Calls Try.prog 21 #[gtV (len : Nat) go gm gc ((k + 1) % 16 : Nat) (b : Nat) (gLf b k : Nat), .slice (some ⟨gp, 0, none⟩) (npL l (6 + 7 * k)).length cp] W fun e w' => Got (gX b l (k + 1)) W w' e) := Hid.mk (fun W gp cp h1 h2 => by
        have h := get_any (len : Nat) go gm gc ((k + 1) % 16 : Nat) (b : Nat) (gLf b k : Nat) (some ⟨gp, 0, none⟩) _ cp _ _ W h1 h2
        have h4 := getX_next (b := b) (l := l) (k := k) HHB.out (by rw [HLL.out]; exact hlt) (by rw [HLL.out]; exact HH3.out)
        rw [HLL.out] at h4
        rw [h4] at h
        exact h)
      have HLB := Hid.mk (lb_step (b := b) (k := k))
      have HPC := Hid.mk (pc_step b k)
      have hxe := gX_e b l (k + 1)
      obtain ⟨X, hX⟩ : ∃ X, X = gX b l (k + 1) := ⟨_, rfl⟩
      rw [← hX] at HGT hxe
      have HX := Hid.mk hX
      obtain ⟨DN, hDN⟩ : ∃ DN, DN = decide (nxN len ≤ k + 1) := ⟨_, rfl⟩
      obtain ⟨N2, hN2⟩ : ∃ N2, N2 = (k + 1 + 1) % 16 := ⟨_, rfl⟩
      rw [← hDN, ← hN2] at HNX
      have HDN := Hid.mk hDN
      have HN2 := Hid.mk hN2
      obtain ⟨NL, hNL⟩ : ∃ NL, NL = npL l (6 + 7 * k) := ⟨_, rfl⟩
      rw [← hNL] at HNX HGT
      have HT0 := Hid.mk (fun ya ac (hA : IsBytes wr (some ya) 3 ac (flowL b)) => told_flow sx ya len sc k b ac l wr HHB.out hlt HH3.out hFs.1 hA)
      obtain ⟨AT, hAT⟩ : ∃ AT, AT = 6 + 7 * k := ⟨_, rfl⟩
      obtain ⟨N1, hN1⟩ : ∃ N1, N1 = (k + 1) % 16 := ⟨_, rfl⟩
      rw [← hAT, ← hN1] at HNX HGT HT0 hR
      rw [← hN1] at hQ
      rw [← hAT] at hFg
      obtain ⟨PK, hPK⟩ : ∃ PK, PK = pcN b k := ⟨_, rfl⟩
      rw [← hPK] at HPC hpk ⊢
      have HPK := Hid.mk hpk
      have hpI : (PK : Int) ≤ 200 := by omega
      have HR := Hid.mk hR
      have HQ := Hid.mk hQ
      have HFs := Hid.mk hFs
      have HFg := Hid.mk hFg
      have HBel := Hid.mk hBel
      have HLT := Hid.mk hlt
      have hX0 : X.e = 0 := hxe
      have HX0 := Hid.mk hX0
      unfold sdV at HNX
      unfold gtV at HGT
      clear hX hAT hN1 hDN hN2 hNL hPK hR hQ hFs hFg hBel hgx hxe hFt HI hv hpk hK42 hX0 hat hlt
      obtain ⟨k0, k1, k2, k3, k4⟩ := HR.out.cells
      cases has : asks b k with
      | false =>
        have haL : ansL b k = [] := by unfold ansL; rw [has]; rfl
        rw [haL] at hFa
        have ham : am = 0 := hFa.1.1.symm
        subst ham
        have HR6 := HR
        have HF6 := HFs
        have HQ6 := HQ
        have HFg6 := HFg
        have HB6 := HBel
        have hsl := sLf_range b k HHB.out
        have hsn := sLf_not has
        have HSL : Hid (0 ≤ sLf b k ∧ sLf b k ≤ 255) := Hid.mk ⟨by omega, by omega⟩
        rw [has, if_neg (by simp)] at HLB HPC
        clear hFa haL has hsl hsn HR HQ HFs HFg HBel
        go_wp2_with fail
        generalize wr = W6 at *
        clear k0 k1 k2 k3 k4
        refine (HNX.out _ _ _ _ HSL.out HF6.out.1).mono ?_
        rintro e w7 ⟨g7, c7, gp, cp, u1, u3, rfl, hu, hg7, hgp, hY7, hP7, hb7⟩
        have HU := Hid.mk hu
        have hl1 := HR6.out.lt
        have hl2 := HQ6.out.lt
        have hs7 := hb7.size
        have HF7 := Hid.mk (far_fresh hY7 hg7 (gs := gs) (gg := gg) hl1 hl2)
        have HQ7 := Hid.mk (HQ6.out.kept hb7)
        have HFg7 := Hid.mk (HFg6.out.kept hb7)
        have HB7 := Hid.mk (bl2 HB6.out hb7)
        have HS7 : Hid (gs < w7.heap.size ∧ gg < w7.heap.size) := Hid.mk ⟨by omega, by omega⟩
        obtain ⟨⟨z0, z1, z2, z3, z4⟩, ⟨y0, y1, y2, y3, y4⟩, ⟨p1, q1⟩, ⟨p2, q2⟩, ⟨p3, q3⟩, ⟨p4, q4⟩, hSX⟩ := (HR6.out.kept hb7).ready (.slice (some ⟨g7, 0, none⟩) len c7) (.int .i64 u1) (.int .i64 (N2 : Int)) (.int .i64 u3) (.bool DN)
        have HR8 := Hid.mk hSX
        have HF8 := Hid.mk (HF7.out.setS (.slice (some ⟨g7, 0, none⟩) len c7) (.int .i64 u1) (.int .i64 (N2 : Int)) (.int .i64 u3) (.bool DN))
        have HQ8 := Hid.mk (HQ7.out.far5 hne.symm (.slice (some ⟨g7, 0, none⟩) len c7) (.int .i64 u1) (.int .i64 (N2 : Int)) (.int .i64 u3) (.bool DN))
        have HFg8 := Hid.mk (HFg7.out.setS (.slice (some ⟨g7, 0, none⟩) len c7) (.int .i64 u1) (.int .i64 (N2 : Int)) (.int .i64 u3) (.bool DN))
        have HB8 := Hid.mk (set5_below HB7.out hgs (.slice (some ⟨g7, 0, none⟩) len c7) (.int .i64 u1) (.int .i64 (N2 : Int)) (.int .i64 u3) (.bool DN))
        have HGP : Hid (gp ≠ gs) := Hid.mk (by omega)
        have HS8 : Hid (gs < (set5 w7 gs (.slice (some ⟨g7, 0, none⟩) len c7) (.int .i64 u1) (.int .i64 (N2 : Int)) (.int .i64 u3) (.bool DN)).heap.size ∧ gg < (set5 w7 gs (.slice (some ⟨g7, 0, none⟩) len c7) (.int .i64 u1) (.int .i64 (N2 : Int)) (.int .i64 u3) (.bool DN)).heap.size) := Hid.mk (by rw [set5_size]; exact HS7.out)
        have HP8 : Hid (IsBytes (set5 w7 gs (.slice (some ⟨g7, 0, none⟩) len c7) (.int .i64 u1) (.int .i64 (N2 : Int)) (.int .i64 u3) (.bool DN)) (some ⟨gp, 0, none⟩) NL.length cp NL) := Hid.mk (isBytes_pos5 hP7 (fun h0 x hx => by cases hx; exact HGP.out) (.slice (some ⟨g7, 0, none⟩) len c7) (.int .i64 u1) (.int .i64 (N2 : Int)) (.int .i64 u3) (.bool DN))
        obtain ⟨s0, s1, s2, s3, s4⟩ := HQ8.out.cells
        unfold set5 at HR8 HF8 HFg8 HB8 HP8 HS8
        clear hSX hb7 hgp hg7 hY7 hP7 hu hs7 hl1 hl2 HR6 HF6 HQ6 HFg6 HB6 HF7 HQ7 HFg7 HB7 HNX HS7 HGP
        go_wp2_with fail
        generalize (((((w7.setCell ⟨gs, 0, none⟩ (.slice (some ⟨g7, 0, none⟩) len c7)).setCell ⟨gs, 1, none⟩ (.int .i64 u1)).setCell ⟨gs, 2, none⟩ (.int .i64 (N2 : Int))).setCell ⟨gs, 3, none⟩ (.int .i64 u3)).setCell ⟨gs, 4, none⟩ (.bool DN)) = W8 at *
        clear z0 z1 z2 z3 z4 y0 y1 y2 y3 y4 p1 q1 p2 q2 p3 q3 p4 q4 s0 s1 s2 s3 s4
        refine (HGT.out _ _ _ HFg8.out.1 HP8.out).mono ?_
        rintro e w9 ⟨o1, n1, e1, o2, n2, e2, o3, n3, e3, rfl, hf1, hf2, hf3, hwn, hb9⟩
        rw [HX0.out]
        unfold gtV
        have HF9 := Hid.mk (HF8.out.kept hb9)
        have HR9 := Hid.mk (HR8.out.kept hb9)
        have HB9 := Hid.mk (bl2 HB8.out hb9)
        have HA1 := Hid.mk (hf1.far (gs := gs) (gg := gg) HS8.out.1 (Or.inl HS8.out.2))
        have HA2 := Hid.mk (hf2.far (gs := gs) (gg := gg) HS8.out.1 (Or.inl HS8.out.2))
        have HA3 := Hid.mk (hf3.far (gs := gs) (gg := gg) HS8.out.1 (Or.inl HS8.out.2))
        obtain ⟨⟨z0, z1, z2, z3, z4⟩, ⟨y0, y1, y2, y3, y4⟩, ⟨p1, q1⟩, ⟨p2, q2⟩, ⟨p3, q3⟩, ⟨p4, q4⟩, hSX⟩ := (HQ8.out.kept hb9).ready (.int .i64 X.want) (.slice o1 n1 e1) (.int .i64 X.next) (.int .i64 X.block) (.int .i64 X.left)
        have HSX := Hid.mk hSX
        have HNEW : Hid (SndS w (set5 w9 gg (.int .i64 X.want) (.slice o1 n1 e1) (.int .i64 X.next) (.int .i64 X.block) (.int .i64 X.left)) gs gg len b l (k + 1) (.slice o3 n3 e3) (.slice o2 n2 e2)) := Hid.mk ⟨set5_below HB9.out hgg _ _ _ _ _, ⟨⟨g7, 0, none⟩, c7, u1, (N2 : Int), u3, by rw [← HDN.out]; exact HR9.out.far5 hne _ _ _ _ _, (fun h => ⟨(HU.out h).1, by rw [HN2.out], by rw [(HU.out h).2]; exact HLB.out⟩), HF9.out.setG _ _ _ _ _⟩, ⟨o1, n1, e1, by rw [← HX.out]; exact HSX.out, by rw [← HX.out]; exact HA1.out.setG _ _ _ _ _⟩, ⟨o2, n2, e2, rfl, by rw [← HX.out]; exact HA2.out.setG _ _ _ _ _⟩, ⟨o3, n3, e3, rfl, by rw [← HX.out]; exact HA3.out.setG _ _ _ _ _⟩⟩
        unfold set5 at HNEW
        clear hSX hf1 hf2 hf3 hwn hb9 HF9 HR9 HB9 HA1 HA2 HA3 HR8 HF8 HQ8 HFg8 HB8 HP8 HS8 HGT HSX
        go_wp2_with fail
        go_roundw
        case rel => exact ⟨k + 1, HLT.out, int_eq (by rw [HPC.out]; omega), rfl, HNEW⟩
        case measure => have := HPK.out; have := HLT.out; have := nx_le len HH3.out; simp [intOf]; omega
      | true =>
        have haL : ansL b k = flowL b := by unfold ansL; rw [has]; rfl
        rw [haL] at hFa
        have ham : am = 3 := hFa.1.1.symm
        subst ham
        obtain ⟨ya, rfl⟩ : ∃ y, ao = some y := by
          cases ao with
          | none => have := hFa.1.2.2.2.1 rfl; omega
          | some y => exact ⟨y, rfl⟩
        have HT := Hid.mk (HT0.out ya ac hFa.1)
        rw [sLf_ask has] at k3 HR
        rw [has, if_pos rfl] at HLB HPC
        unfold sdV at HT
        clear hFa haL has
        go_wp2_with fail
        refine HT.out.mono ?_
        rintro e w5 ⟨g5, c5, rfl, hg5, hY5, hb5⟩
        have hs5 := hb5.size
        have hl1 := HR.out.lt
        have hl2 := HQ.out.lt
        have HF5 := Hid.mk (far_fresh hY5 hg5 (gs := gs) (gg := gg) hl1 hl2)
        have HQ5 := Hid.mk (HQ.out.kept hb5)
        have HFg5 := Hid.mk (HFg.out.kept hb5)
        have HB5 := Hid.mk (bl2 HBel.out hb5)
        obtain ⟨⟨z0, z1, z2, z3, z4⟩, ⟨y0, y1, y2, y3, y4⟩, ⟨p1, q1⟩, ⟨p2, q2⟩, ⟨p3, q3⟩, ⟨p4, q4⟩, hSX⟩ := (HR.out.kept hb5).ready (.slice (some ⟨g5, 0, none⟩) len c5) (.int .i64 (AT : Int)) (.int .i64 (N1 : Int)) (.int .i64 (b : Int)) (.bool false)
        have HR6 := Hid.mk hSX
        have HF6 := Hid.mk (HF5.out.setS (.slice (some ⟨g5, 0, none⟩) len c5) (.int .i64 (AT : Int)) (.int .i64 (N1 : Int)) (.int .i64 (b : Int)) (.bool false))
        have HQ6 := Hid.mk (HQ5.out.far5 hne.symm (.slice (some ⟨g5, 0, none⟩) len c5) (.int .i64 (AT : Int)) (.int .i64 (N1 : Int)) (.int .i64 (b : Int)) (.bool false))
        have HFg6 := Hid.mk (HFg5.out.setS (.slice (some ⟨g5, 0, none⟩) len c5) (.int .i64 (AT : Int)) (.int .i64 (N1 : Int)) (.int .i64 (b : Int)) (.bool false))
        have HB6 := Hid.mk (set5_below HB5.out hgs (.slice (some ⟨g5, 0, none⟩) len c5) (.int .i64 (AT : Int)) (.int .i64 (N1 : Int)) (.int .i64 (b : Int)) (.bool false))
        obtain ⟨s0, s1, s2, s3, s4⟩ := HR6.out.cells
        unfold set5 at s0 s1 s2 s3 s4 HR6 HF6 HFg6 HB6
        clear hSX hb5 hg5 hY5 hs5 hl1 hl2 HT k0 k1 k2 k3 k4 HR HQ HFs HFg HBel HF5 HQ5 HFg5 HB5
        go_wp2_with fail
        generalize (((((w5.setCell ⟨gs, 0, none⟩ (.slice (some ⟨g5, 0, none⟩) len c5)).setCell ⟨gs, 1, none⟩ (.int .i64 (AT : Int))).setCell ⟨gs, 2, none⟩ (.int .i64 (N1 : Int))).setCell ⟨gs, 3, none⟩ (.int .i64 (b : Int))).setCell ⟨gs, 4, none⟩ (.bool false)) = W6 at *
        clear z0 z1 z2 z3 z4 y0 y1 y2 y3 y4 p1 q1 p2 q2 p3 q3 p4 q4 s0 s1 s2 s3 s4
        refine (HNX.out _ _ _ _ ⟨by omega, by have := HHB.out; omega⟩ HF6.out.1).mono ?_
        rintro e w7 ⟨g7, c7, gp, cp, u1, u3, rfl, hu, hg7, hgp, hY7, hP7, hb7⟩
        have HU := Hid.mk hu
        have hl1 := HR6.out.lt
        have hl2 := HQ6.out.lt
        have hs7 := hb7.size
        have HF7 := Hid.mk (far_fresh hY7 hg7 (gs := gs) (gg := gg) hl1 hl2)
        have HQ7 := Hid.mk (HQ6.out.kept hb7)
        have HFg7 := Hid.mk (HFg6.out.kept hb7)
        have HB7 := Hid.mk (bl2 HB6.out hb7)
        have HS7 : Hid (gs < w7.heap.size ∧ gg < w7.heap.size) := Hid.mk ⟨by omega, by omega⟩
        obtain ⟨⟨z0, z1, z2, z3, z4⟩, ⟨y0, y1, y2, y3, y4⟩, ⟨p1, q1⟩, ⟨p2, q2⟩, ⟨p3, q3⟩, ⟨p4, q4⟩, hSX⟩ := (HR6.out.kept hb7).ready (.slice (some ⟨g7, 0, none⟩) len c7) (.int .i64 u1) (.int .i64 (N2 : Int)) (.int .i64 u3) (.bool DN)
        have HR8 := Hid.mk hSX
        have HF8 := Hid.mk (HF7.out.setS (.slice (some ⟨g7, 0, none⟩) len c7) (.int .i64 u1) (.int .i64 (N2 : Int)) (.int .i64 u3) (.bool DN))
        have HQ8 := Hid.mk (HQ7.out.far5 hne.symm (.slice (some ⟨g7, 0, none⟩) len c7) (.int .i64 u1) (.int .i64 (N2 : Int)) (.int .i64 u3) (.bool DN))
        have HFg8 := Hid.mk (HFg7.out.setS (.slice (some ⟨g7, 0, none⟩) len c7) (.int .i64 u1) (.int .i64 (N2 : Int)) (.int .i64 u3) (.bool DN))
        have HB8 := Hid.mk (set5_below HB7.out hgs (.slice (some ⟨g7, 0, none⟩) len c7) (.int .i64 u1) (.int .i64 (N2 : Int)) (.int .i64 u3) (.bool DN))
        have HGP : Hid (gp ≠ gs) := Hid.mk (by omega)
        have HS8 : Hid (gs < (set5 w7 gs (.slice (some ⟨g7, 0, none⟩) len c7) (.int .i64 u1) (.int .i64 (N2 : Int)) (.int .i64 u3) (.bool DN)).heap.size ∧ gg < (set5 w7 gs (.slice (some ⟨g7, 0, none⟩) len c7) (.int .i64 u1) (.int .i64 (N2 : Int)) (.int .i64 u3) (.bool DN)).heap.size) := Hid.mk (by rw [set5_size]; exact HS7.out)
        have HP8 : Hid (IsBytes (set5 w7 gs (.slice (some ⟨g7, 0, none⟩) len c7) (.int .i64 u1) (.int .i64 (N2 : Int)) (.int .i64 u3) (.bool DN)) (some ⟨gp, 0, none⟩) NL.length cp NL) := Hid.mk (isBytes_pos5 hP7 (fun h0 x hx => by cases hx; exact HGP.out) (.slice (some ⟨g7, 0, none⟩) len c7) (.int .i64 u1) (.int .i64 (N2 : Int)) (.int .i64 u3) (.bool DN))
        obtain ⟨s0, s1, s2, s3, s4⟩ := HQ8.out.cells
        unfold set5 at HR8 HF8 HFg8 HB8 HP8 HS8
        clear hSX hb7 hgp hg7 hY7 hP7 hu hs7 hl1 hl2 HR6 HF6 HQ6 HFg6 HB6 HF7 HQ7 HFg7 HB7 HNX HS7 HGP
        go_wp2_with fail
        generalize (((((w7.setCell ⟨gs, 0, none⟩ (.slice (some ⟨g7, 0, none⟩) len c7)).setCell ⟨gs, 1, none⟩ (.int .i64 u1)).setCell ⟨gs, 2, none⟩ (.int .i64 (N2 : Int))).setCell ⟨gs, 3, none⟩ (.int .i64 u3)).setCell ⟨gs, 4, none⟩ (.bool DN)) = W8 at *
        clear z0 z1 z2 z3 z4 y0 y1 y2 y3 y4 p1 q1 p2 q2 p3 q3 p4 q4 s0 s1 s2 s3 s4
        refine (HGT.out _ _ _ HFg8.out.1 HP8.out).mono ?_
        rintro e w9 ⟨o1, n1, e1, o2, n2, e2, o3, n3, e3, rfl, hf1, hf2, hf3, hwn, hb9⟩
        rw [HX0.out]
        unfold gtV
        have HF9 := Hid.mk (HF8.out.kept hb9)
        have HR9 := Hid.mk (HR8.out.kept hb9)
        have HB9 := Hid.mk (bl2 HB8.out hb9)
        have HA1 := Hid.mk (hf1.far (gs := gs) (gg := gg) HS8.out.1 (Or.inl HS8.out.2))
        have HA2 := Hid.mk (hf2.far (gs := gs) (gg := gg) HS8.out.1 (Or.inl HS8.out.2))
        have HA3 := Hid.mk (hf3.far (gs := gs) (gg := gg) HS8.out.1 (Or.inl HS8.out.2))
        obtain ⟨⟨z0, z1, z2, z3, z4⟩, ⟨y0, y1, y2, y3, y4⟩, ⟨p1, q1⟩, ⟨p2, q2⟩, ⟨p3, q3⟩, ⟨p4, q4⟩, hSX⟩ := (HQ8.out.kept hb9).ready (.int .i64 X.want) (.slice o1 n1 e1) (.int .i64 X.next) (.int .i64 X.block) (.int .i64 X.left)
        have HSX := Hid.mk hSX
        have HNEW : Hid (SndS w (set5 w9 gg (.int .i64 X.want) (.slice o1 n1 e1) (.int .i64 X.next) (.int .i64 X.block) (.int .i64 X.left)) gs gg len b l (k + 1) (.slice o3 n3 e3) (.slice o2 n2 e2)) := Hid.mk ⟨set5_below HB9.out hgg _ _ _ _ _, ⟨⟨g7, 0, none⟩, c7, u1, (N2 : Int), u3, by rw [← HDN.out]; exact HR9.out.far5 hne _ _ _ _ _, (fun h => ⟨(HU.out h).1, by rw [HN2.out], by rw [(HU.out h).2]; exact HLB.out⟩), HF9.out.setG _ _ _ _ _⟩, ⟨o1, n1, e1, by rw [← HX.out]; exact HSX.out, by rw [← HX.out]; exact HA1.out.setG _ _ _ _ _⟩, ⟨o2, n2, e2, rfl, by rw [← HX.out]; exact HA2.out.setG _ _ _ _ _⟩, ⟨o3, n3, e3, rfl, by rw [← HX.out]; exact HA3.out.setG _ _ _ _ _⟩⟩
        unfold set5 at HNEW
        clear hSX hf1 hf2 hf3 hwn hb9 HF9 HR9 HB9 HA1 HA2 HA3 HR8 HF8 HQ8 HFg8 HB8 HP8 HS8 HGT HSX
        go_wp2_with fail
        go_roundw
        case rel => exact ⟨k + 1, HLT.out, int_eq (by rw [HPC.out]; omega), rfl, HNEW⟩
        case measure => have := HPK.out; have := HLT.out; have := nx_le len HH3.out; simp [intOf]; omega
    · obtain rfl : k = nxN len := by omega
      rw [show decide (nxN len ≤ nxN len) = true by simp] at hR
      have hgx : (gX b l (nxN len)).whole = l := by
        unfold gX
        rw [HLL.out, if_neg (by omega)]
      rw [hgx] at hFt
      obtain ⟨k0, k1, k2, k3, k4⟩ := hR.cells
      have HF := Hid.mk hFt.1
      have HBel := Hid.mk hBel
      clear hR hQ hFs hFg hFa hFt hgx HI hBel hv hpk hK42 hlt hk
      go_wp2_with fail
      go_ret3
      exact ⟨tp, tm, tc, rfl, HF.out, HBel.out⟩
end Bw
end Go.Proofs.Ytgjnfmbmndnihaa
