/- What package part's getOne answers. -/
import Derived.Test.YtgjnfmbmndnihaaPtTold
import Derived.Deep.RegionHeld3
namespace Go.Proofs.Ytgjnfmbmndnihaa
open Go.ChangeShapes Go.WideShapes Go.ChangeAt Go.RowKit
namespace Bw
open Bm
set_option linter.unusedVariables false
/-- bytes, in memory that is new, or none -/
def FB (w w' : World) (o : Option Addr) (n c : Nat) (l : List UInt8) : Prop := IsBytes w' o n c l ∧ ∀ y, o = some y → w.heap.size ≤ y.block
theorem FB.nil (w w' : World) : FB w w' none 0 0 [] := ⟨⟨rfl, Nat.le_refl _, Nat.zero_le _, fun _ => rfl, fun y hy => by cases hy⟩, fun y hy => by cases hy⟩
theorem FB.set5 {w W w' : World} {o : Option Addr} {n c : Nat} {l : List UInt8} (h : FB W w' o n c l) {g : Nat} (hg : g < W.heap.size) (hw : w.heap.size ≤ W.heap.size) (a b c' d e : Value) : FB w (Bw.set5 w' g a b c' d e) o n c l :=
  ⟨isBytes_set5' h.1 (fun x hx => by have := h.2 x hx; omega) _ _ _ _ _, fun y hy => Nat.le_trans hw (h.2 y hy)⟩
theorem FB.kept {w w' w'' : World} {o : Option Addr} {n c : Nat} {l : List UInt8} (h : FB w w' o n c l) (hb : Below w'.heap.size w' w'') : FB w w'' o n c l := ⟨isBytes_below h.1 hb, h.2⟩
theorem FB.up {w W w' : World} {o : Option Addr} {n c : Nat} {l : List UInt8} (h : FB W w' o n c l) (hw : w.heap.size ≤ W.heap.size) : FB w w' o n c l := ⟨h.1, fun y hy => Nat.le_trans hw (h.2 y hy)⟩
theorem FB.set {w W w' : World} {o : Option Addr} {n c : Nat} {l : List UInt8} (h : FB W w' o n c l) {g : Nat} (hg : g < W.heap.size) (hw : w.heap.size ≤ W.heap.size) (i : Nat) (v : Value) : FB w (w'.setCell ⟨g, i, none⟩ v) o n c l :=
  ⟨isBytes_set' h.1 (fun x hx => by have := h.2 x hx; omega) _ _, fun y hy => Nat.le_trans hw (h.2 y hy)⟩
theorem one_res (tmps : Array Value) (w : World) (g : Nat) (cs : Array Value) (x y : Value) (hp : tmps.getD 4 undef = .pointer (some ⟨g, 0, none⟩)) (hx : tmps.getD 5 undef = x) (hy : tmps.getD 6 undef = y) (h : w.heap[g]? = some (.cells cs 44 (0, 0))) (hs : cs.size = 5) :
    (results Try.f36 tmps).run Try.prog w = .ok (.tuple #[.agg cs, x, y]) w := by
  have hl := run_loadVar_row (P := Try.prog) w g 44 44 cs (0, 0) _ h Try.underlying44 rfl (by rw [gt_i, hs])
  have hp' : tmps[4]?.getD undef = .pointer (some ⟨g, 0, none⟩) := by simpa using hp
  have hx' : tmps[5]?.getD undef = x := by simpa using hx
  have hy' : tmps[6]?.getD undef = y := by simpa using hy
  simp [results, hp', hx', hy', asAddr, hl]
set_option maxHeartbeats 4000000 in
set_option maxRecDepth 100000 in
theorem one_range (want : Int) (a : Option Addr) (n cap : Nat) (next block left : Int) (y : Addr) (m mc c0 : Nat) (w : World) (hm : m ≤ 8) (hm1 : 1 ≤ m) (hc0 : c0 < 256) (hy : w.cell? y = some (.int .u8 (c0 : Int))) (hf : ¬ (1 ≤ c0 % 16 ∧ c0 % 16 ≤ 7)) :
    Calls Try.prog 36 #[gtV want a n cap next block left, .slice (some y) m mc] w fun e w' => e = .returned (.tuple #[gtV 0 none 0 0 0 0 0, .slice none 0 0, .int .i64 4]) ∧ Below w.heap.size w w' := by
  obtain ⟨hA, hZ, hB⟩ := two5 w 44 (.int .i64 want) (.slice a n cap) (.int .i64 next) (.int .i64 block) (.int .i64 left) (.int .i64 0) (.slice none 0 0) (.int .i64 0) (.int .i64 0) (.int .i64 0)
  have HA := Hid.mk hA
  have HZ := Hid.mk hZ
  have HB := Hid.mk hB
  have HY0 := Hid.mk hy
  have HLO := Hid.mk (fun W (h : Below w.heap.size w W) => lower_any y m mc c0 W (by omega) hc0 (cell_kept h hy))
  obtain ⟨r, hr⟩ : ∃ r, r = c0 % 16 := ⟨_, rfl⟩
  rw [← hr] at HLO
  have hW := fun W => pwithin_any (r : Int) 1 7 W
  simp only [show inP (r : Int) 1 7 = false from inP_no (by omega)] at hW
  clear hf hr
  clear hA hZ hB hy
  unfold gtV
  go_enter Try.func36, Try.ntmps36
  go_wp2_with fail
  refine (HLO.out _ HB.out).mono ?_
  rintro e w1 ⟨rfl, hw1⟩
  rw [hw1]
  clear hw1
  generalize ((w.alloc (.cells #[.int .i64 want, .slice a n cap, .int .i64 next, .int .i64 block, .int .i64 left] 44)).alloc (.cells #[.int .i64 0, .slice none 0 0, .int .i64 0, .int .i64 0, .int .i64 0] 44)) = W0 at *
  go_wp2_with fail
  refine (hW _).mono ?_
  rintro e w1 ⟨rfl, hw1⟩
  rw [hw1]
  clear hw1
  obtain ⟨⟨z0, z1, z2, z3, z4⟩, ⟨y0, y1, y2, y3, y4⟩, ⟨p1, q1⟩, ⟨p2, q2⟩, ⟨p3, q3⟩, ⟨p4, q4⟩, hSX⟩ := HZ.out.ready (.int .i64 0) (.slice none 0 0) (.int .i64 0) (.int .i64 0) (.int .i64 0)
  have HSX := Hid.mk hSX
  clear hSX
  go_wp2_with fail
  refine bodyPost_ret (one_res _ _ (w.heap.size + 1) _ _ _ rfl rfl rfl HSX.out rfl) rfl ?_
  exact ⟨rfl, set5_below HB.out (Nat.le_succ _) _ _ _ _ _⟩
set_option maxHeartbeats 4000000 in
set_option maxRecDepth 100000 in
theorem one_size (want : Int) (a : Option Addr) (n cap : Nat) (next block left : Int) (y : Addr) (m mc c0 : Nat) (w : World) (hm : m ≤ 8) (hm1 : 1 ≤ m) (hc0 : c0 < 256) (hy : w.cell? y = some (.int .u8 (c0 : Int))) (hf : 1 ≤ c0 % 16 ∧ c0 % 16 ≤ 7) (hs : c0 % 16 ≠ m - 1) :
    Calls Try.prog 36 #[gtV want a n cap next block left, .slice (some y) m mc] w fun e w' => e = .returned (.tuple #[gtV 0 none 0 0 0 0 0, .slice none 0 0, .int .i64 4]) ∧ Below w.heap.size w w' := by
  obtain ⟨hA, hZ, hB⟩ := two5 w 44 (.int .i64 want) (.slice a n cap) (.int .i64 next) (.int .i64 block) (.int .i64 left) (.int .i64 0) (.slice none 0 0) (.int .i64 0) (.int .i64 0) (.int .i64 0)
  have HA := Hid.mk hA
  have HZ := Hid.mk hZ
  have HB := Hid.mk hB
  have HY0 := Hid.mk hy
  have HLO := Hid.mk (fun W (h : Below w.heap.size w W) => lower_any y m mc c0 W (by omega) hc0 (cell_kept h hy))
  obtain ⟨r, hr⟩ : ∃ r, r = c0 % 16 := ⟨_, rfl⟩
  rw [← hr] at HLO
  have hW := fun W => pwithin_any (r : Int) 1 7 W
  simp only [show inP (r : Int) 1 7 = true from inP_yes (by omega)] at hW
  have hs' : ((r : Int) != (m : Int) - 1) = true := by simp; omega
  have hm8 : (m : Int) ≤ 8 := by omega
  have hm0 : (1 : Int) ≤ (m : Int) := by omega
  clear hf hr hs
  clear hA hZ hB hy
  unfold gtV
  go_enter Try.func36, Try.ntmps36
  go_wp2_with fail
  refine (HLO.out _ HB.out).mono ?_
  rintro e w1 ⟨rfl, hw1⟩
  rw [hw1]
  clear hw1
  generalize ((w.alloc (.cells #[.int .i64 want, .slice a n cap, .int .i64 next, .int .i64 block, .int .i64 left] 44)).alloc (.cells #[.int .i64 0, .slice none 0 0, .int .i64 0, .int .i64 0, .int .i64 0] 44)) = W0 at *
  go_wp2_with fail
  refine (hW _).mono ?_
  rintro e w1 ⟨rfl, hw1⟩
  rw [hw1]
  clear hw1
  obtain ⟨⟨z0, z1, z2, z3, z4⟩, ⟨y0, y1, y2, y3, y4⟩, ⟨p1, q1⟩, ⟨p2, q2⟩, ⟨p3, q3⟩, ⟨p4, q4⟩, hSX⟩ := HZ.out.ready (.int .i64 0) (.slice none 0 0) (.int .i64 0) (.int .i64 0) (.int .i64 0)
  have HSX := Hid.mk hSX
  clear hSX
  go_wp2_with fail
  refine bodyPost_ret (one_res _ _ (w.heap.size + 1) _ _ _ rfl rfl rfl HSX.out rfl) rfl ?_
  exact ⟨rfl, set5_below HB.out (Nat.le_succ _) _ _ _ _ _⟩
set_option maxHeartbeats 4000000 in
set_option maxRecDepth 100000 in
theorem one_ok (want : Int) (a : Option Addr) (n cap : Nat) (next block left : Int) (y : Addr) (m mc c0 : Nat) (w : World) (hm : m ≤ 8) (hm1 : 1 ≤ m) (hc0 : c0 < 256) (hy : w.cell? y = some (.int .u8 (c0 : Int))) (p : List UInt8) (hD : IsBytes w (some y) m mc p) (hf : 1 ≤ c0 % 16 ∧ c0 % 16 ≤ 7) (hs : c0 % 16 = m - 1) :
    Calls Try.prog 36 #[gtV want a n cap next block left, .slice (some y) m mc] w fun e w' => ∃ g c, e = .returned (.tuple #[gtV 0 none 0 0 0 block 0, .slice (some ⟨g, 0, none⟩) (m - 1) c, .int .i64 0]) ∧ FB w w' (some ⟨g, 0, none⟩) (m - 1) c (p.drop 1) ∧ Below w.heap.size w w' := by
  obtain ⟨hA, hZ, hB⟩ := two5 w 44 (.int .i64 want) (.slice a n cap) (.int .i64 next) (.int .i64 block) (.int .i64 left) (.int .i64 0) (.slice none 0 0) (.int .i64 0) (.int .i64 0) (.int .i64 0)
  have HA := Hid.mk hA
  have HZ := Hid.mk hZ
  have HB := Hid.mk hB
  have HY0 := Hid.mk hy
  have HLO := Hid.mk (fun W (h : Below w.heap.size w W) => lower_any y m mc c0 W (by omega) hc0 (cell_kept h hy))
  obtain ⟨r, hr⟩ : ∃ r, r = c0 % 16 := ⟨_, rfl⟩
  rw [← hr] at HLO
  have hW := fun W => pwithin_any (r : Int) 1 7 W
  simp only [show inP (r : Int) 1 7 = true from inP_yes (by omega)] at hW
  have hs' : ((r : Int) != (m : Int) - 1) = false := by simp; omega
  have hm8 : (m : Int) ≤ 8 := by omega
  have hmc : m ≤ mc := hD.2.1
  have hm2 : 2 ≤ m := by omega
  have hmc1 : 1 < mc := by omega
  have hmc2 : (1 : Int) < (mc : Int) := by omega
  have hm0 : (1 : Int) ≤ (m : Int) := by omega
  have hm3 : 1 ≤ m := by omega
  have HCL := Hid.mk (fun W (h : Below w.heap.size w W) => cloneBy_some (y.add 1) (m - 1) (mc - 1) (p.drop 1) W (isBytes_below (by have h1 := isBytes_cut hD 1 m (by omega) (Nat.le_refl _); rw [List.take_of_length_le (by rw [List.length_drop]; have := hD.1; omega)] at h1; exact h1) h) (by omega))
  simp only [add1P] at HCL
  have HID := Hid.mk (fun W => idle_any want a n cap next block left W)
  unfold gtV at HID
  generalize p.drop 1 = PL at *
  clear hD hf hr hs
  clear hA hZ hB hy
  unfold gtV
  go_enter Try.func36, Try.ntmps36
  go_wp2_with fail
  refine (HLO.out _ HB.out).mono ?_
  rintro e w1 ⟨rfl, hw1⟩
  rw [hw1]
  clear hw1
  generalize ((w.alloc (.cells #[.int .i64 want, .slice a n cap, .int .i64 next, .int .i64 block, .int .i64 left] 44)).alloc (.cells #[.int .i64 0, .slice none 0 0, .int .i64 0, .int .i64 0, .int .i64 0] 44)) = W0 at *
  go_wp2_with fail
  refine (hW _).mono ?_
  rintro e w1 ⟨rfl, hw1⟩
  rw [hw1]
  clear hw1
  have HK : Hid (∀ W, Below W0.heap.size W0 W → W.cell? ⟨w.heap.size, 0, none⟩ = some (.int .i64 want) ∧ W.cell? ⟨w.heap.size, 1, none⟩ = some (.slice a n cap) ∧ W.cell? ⟨w.heap.size, 2, none⟩ = some (.int .i64 next) ∧ W.cell? ⟨w.heap.size, 3, none⟩ = some (.int .i64 block) ∧ W.cell? ⟨w.heap.size, 4, none⟩ = some (.int .i64 left)) := Hid.mk (fun W hb => (HA.out.kept hb).cells)
  have HNE : Hid (w.heap.size ≠ w.heap.size + 1) := Hid.mk (by omega)
  go_wp2_with fail
  go_region_held3 (fun W => W.cell? ⟨w.heap.size, 0, none⟩ = some (.int .i64 want) ∧ W.cell? ⟨w.heap.size, 1, none⟩ = some (.slice a n cap) ∧ W.cell? ⟨w.heap.size, 2, none⟩ = some (.int .i64 next) ∧ W.cell? ⟨w.heap.size, 3, none⟩ = some (.int .i64 block) ∧ W.cell? ⟨w.heap.size, 4, none⟩ = some (.int .i64 left)) (with_reducible first | exact HK.out _ (dwG _) | exact HK.out _ HB6.out | exact HK.out _ HB5.out | exact ((HA.out.kept HB6.out).far5 HNE.out _ _ _ _ _).cells) (first
    | (go_at_call 47; with_reducible refine (HID.out _).mono ?_; rintro e w5 ⟨rfl, hb5⟩
       have HB5 := Hid.mk (bl2 (dwG W0) hb5)
       clear hb5)
    | (go_at_call 31; with_reducible refine (HCL.out _ (bl2 HB.out HB5.out)).mono ?_; rintro e w6 ⟨g, c, rfl, hown, hg, hb6⟩
       have HB6 := Hid.mk (bl2 HB5.out hb6)
       have HO := Hid.mk (isBytes_ownG hown)
       have HG := Hid.mk (Nat.le_trans HB5.out.size hg)
       obtain ⟨⟨z0, z1, z2, z3, z4⟩, ⟨y0, y1, y2, y3, y4⟩, ⟨p1, q1⟩, ⟨p2, q2⟩, ⟨p3, q3⟩, ⟨p4, q4⟩, hSX⟩ := (HZ.out.kept HB6.out).ready (.int .i64 0) (.slice none 0 0) (.int .i64 0) (.int .i64 block) (.int .i64 0)
       have HSX := Hid.mk hSX
       clear hSX hb6 hg hown))
  go_wp2_with fail
  refine bodyPost_ret (one_res _ _ (w.heap.size + 1) _ _ _ rfl rfl rfl HSX.out rfl) rfl ?_
  have hlt := HZ.out.lt
  exact ⟨g, c, rfl, ⟨isBytes_set5 HO.out (by have := HG.out; simp; omega) _ _ _ _ _, fun q hq => by cases hq; have := HG.out; simp; omega⟩, set5_below (bl2 HB.out HB6.out) (Nat.le_succ _) _ _ _ _ _⟩
end Bw
end Go.Proofs.Ytgjnfmbmndnihaa
