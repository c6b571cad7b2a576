/- What package part's Told answers. -/
import Derived.Test.YtgjnfmbmndnihaaPtVar
namespace Go.Proofs.Ytgjnfmbmndnihaa
open Go.ChangeShapes Go.WideShapes Go.ChangeAt Go.RowKit
namespace Bw
open Bm
set_option linter.unusedVariables false
theorem told_res (tmps : Array Value) (w : World) (g : Nat) (cs : Array Value) (x : Value) (hp : tmps.getD 4 undef = .pointer (some ⟨g, 0, none⟩)) (hx : tmps.getD 5 undef = x) (h : w.heap[g]? = some (.cells cs 28 (0, 0))) (hs : cs.size = 5) :
    (results Try.f17 tmps).run Try.prog w = .ok (.tuple #[.agg cs, x]) w := by
  have hl := run_loadVar_row (P := Try.prog) w g 28 28 cs (0, 0) _ h Try.underlying28 rfl (by rw [sd_i, hs])
  have hp' : tmps[4]?.getD undef = .pointer (some ⟨g, 0, none⟩) := by simpa using hp
  have hx' : tmps[5]?.getD undef = x := by simpa using hx
  simp [results, hp', hx', asAddr, hl]
theorem Row5.ready {w : World} {g : Nat} {T : TypeId} {a b c d e : Value} (h : Row5 w g T a b c d e) (a' b' c' d' e' : Value) :
    (w.cell? ⟨g, 0, none⟩ = some a ∧ w.cell? ⟨g, 1, none⟩ = some b ∧ w.cell? ⟨g, 2, none⟩ = some c ∧ w.cell? ⟨g, 3, none⟩ = some d ∧ w.cell? ⟨g, 4, none⟩ = some e) ∧ (w.frozen? ⟨g, 0, none⟩ = false ∧ w.frozen? ⟨g, 1, none⟩ = false ∧ w.frozen? ⟨g, 2, none⟩ = false ∧ w.frozen? ⟨g, 3, none⟩ = false ∧ w.frozen? ⟨g, 4, none⟩ = false) ∧
    ((w.setCell ⟨g, 0, none⟩ a').cell? ⟨g, 1, none⟩ = some b ∧ (w.setCell ⟨g, 0, none⟩ a').frozen? ⟨g, 1, none⟩ = false) ∧
    (((w.setCell ⟨g, 0, none⟩ a').setCell ⟨g, 1, none⟩ b').cell? ⟨g, 2, none⟩ = some c ∧ ((w.setCell ⟨g, 0, none⟩ a').setCell ⟨g, 1, none⟩ b').frozen? ⟨g, 2, none⟩ = false) ∧
    ((((w.setCell ⟨g, 0, none⟩ a').setCell ⟨g, 1, none⟩ b').setCell ⟨g, 2, none⟩ c').cell? ⟨g, 3, none⟩ = some d ∧ (((w.setCell ⟨g, 0, none⟩ a').setCell ⟨g, 1, none⟩ b').setCell ⟨g, 2, none⟩ c').frozen? ⟨g, 3, none⟩ = false) ∧
    (((((w.setCell ⟨g, 0, none⟩ a').setCell ⟨g, 1, none⟩ b').setCell ⟨g, 2, none⟩ c').setCell ⟨g, 3, none⟩ d').cell? ⟨g, 4, none⟩ = some e ∧ ((((w.setCell ⟨g, 0, none⟩ a').setCell ⟨g, 1, none⟩ b').setCell ⟨g, 2, none⟩ c').setCell ⟨g, 3, none⟩ d').frozen? ⟨g, 4, none⟩ = false) ∧
    Row5 (set5 w g a' b' c' d' e') g T a' b' c' d' e' :=
  ⟨h.cells, ⟨h.frozen 0, h.frozen 1, h.frozen 2, h.frozen 3, h.frozen 4⟩, h.store a' b' c' d' e'⟩
/-- the parameter's variable, and the answer's -/
theorem two5 (w : World) (T : TypeId) (a b c d e a' b' c' d' e' : Value) : Row5 ((w.alloc (.cells #[a, b, c, d, e] T)).alloc (.cells #[a', b', c', d', e'] T)) w.heap.size T a b c d e ∧ Row5 ((w.alloc (.cells #[a, b, c, d, e] T)).alloc (.cells #[a', b', c', d', e'] T)) (w.heap.size + 1) T a' b' c' d' e' ∧ Below w.heap.size w ((w.alloc (.cells #[a, b, c, d, e] T)).alloc (.cells #[a', b', c', d', e'] T)) :=
  ⟨(Row5.new w T a b c d e).kept (awG _ _), new2P w _ _, bl2 (awG _ _) (awG _ _)⟩
set_option maxHeartbeats 4000000 in
set_option maxRecDepth 100000 in
theorem told_bad (a : Option Addr) (n cap : Nat) (k : Int) (next left : Int) (done : Bool) (b : Option Addr) (m mc : Nat) (w : World) (hl : n ≤ maxLen) (hm : m ≤ maxLen) (hE : sdE n k next left done ≠ 0) :
    Calls Try.prog 17 #[sdV a n cap k next left done, .slice b m mc] w fun e w' => e = .returned (.tuple #[sdV none 0 0 0 0 0 false, .int .i64 (sdE n k next left done)]) ∧ Below w.heap.size w w' := by
  have HCK := Hid.mk (fun W => checkSender_any a n cap k next left done W hl)
  skip
  obtain ⟨hA, hZ, hB⟩ := two5 w 28 (.slice a n cap) (.int .i64 k) (.int .i64 next) (.int .i64 left) (.bool done) (.slice none 0 0) (.int .i64 0) (.int .i64 0) (.int .i64 0) (.bool false)
  have HA := Hid.mk hA
  have HZ := Hid.mk hZ
  have HB := Hid.mk hB
  obtain ⟨a0, a1, a2, a3, a4⟩ := hA.cells
  unfold maxLen at hm
  have hne : (sdE n k next left done != 0) = true := by simpa using hE
  clear hE
  generalize sdE n k next left done = E at *
  clear hA hZ hB hl
  unfold sdV at HCK ⊢
  go_enter Try.func17, Try.ntmps17
  go_wp2_with fail
  refine (HCK.out _).mono ?_
  rintro e w1 ⟨rfl, hb1⟩
  have HA1 := Hid.mk (HA.out.kept hb1)
  have HZ1 := Hid.mk (HZ.out.kept hb1)
  have HB1 := Hid.mk (bl2 HB.out hb1)
  clear a0 a1 a2 a3 a4 HA HZ HB HCK hb1
  obtain ⟨⟨z0, z1, z2, z3, z4⟩, ⟨y0, y1, y2, y3, y4⟩, ⟨p1, q1⟩, ⟨p2, q2⟩, ⟨p3, q3⟩, ⟨p4, q4⟩, hSX⟩ := HZ1.out.ready (.slice none 0 0) (.int .i64 0) (.int .i64 0) (.int .i64 0) (.bool false)
  have HSX := Hid.mk hSX
  clear hSX
  go_wp2_with fail
  refine bodyPost_ret (told_res _ _ (w.heap.size + 1) _ _ rfl rfl HSX.out rfl) rfl ?_
  exact ⟨rfl, set5_below HB1.out (Nat.le_succ _) _ _ _ _ _⟩
set_option maxHeartbeats 4000000 in
set_option maxRecDepth 100000 in
theorem told_len (a : Option Addr) (n cap : Nat) (k : Int) (next left : Int) (done : Bool) (b : Option Addr) (m mc : Nat) (w : World) (hl : n ≤ maxLen) (hm : m ≤ maxLen) (hE : sdE n k next left done = 0) (h3 : m ≠ 3) :
    Calls Try.prog 17 #[sdV a n cap k next left done, .slice b m mc] w fun e w' => e = .returned (.tuple #[sdV none 0 0 0 0 0 false, .int .i64 4]) ∧ Below w.heap.size w w' := by
  have HCK := Hid.mk (fun W => checkSender_any a n cap k next left done W hl)
  rw [hE] at HCK
  obtain ⟨hA, hZ, hB⟩ := two5 w 28 (.slice a n cap) (.int .i64 k) (.int .i64 next) (.int .i64 left) (.bool done) (.slice none 0 0) (.int .i64 0) (.int .i64 0) (.int .i64 0) (.bool false)
  have HA := Hid.mk hA
  have HZ := Hid.mk hZ
  have HB := Hid.mk hB
  obtain ⟨a0, a1, a2, a3, a4⟩ := hA.cells
  unfold maxLen at hm
  have h3' : ((m : Int) != 3) = true := by simp; omega
  clear h3
  clear hA hZ hB hl
  unfold sdV at HCK ⊢
  go_enter Try.func17, Try.ntmps17
  go_wp2_with fail
  refine (HCK.out _).mono ?_
  rintro e w1 ⟨rfl, hb1⟩
  have HA1 := Hid.mk (HA.out.kept hb1)
  have HZ1 := Hid.mk (HZ.out.kept hb1)
  have HB1 := Hid.mk (bl2 HB.out hb1)
  clear a0 a1 a2 a3 a4 HA HZ HB HCK hb1
  obtain ⟨⟨z0, z1, z2, z3, z4⟩, ⟨y0, y1, y2, y3, y4⟩, ⟨p1, q1⟩, ⟨p2, q2⟩, ⟨p3, q3⟩, ⟨p4, q4⟩, hSX⟩ := HZ1.out.ready (.slice none 0 0) (.int .i64 0) (.int .i64 0) (.int .i64 0) (.bool false)
  have HSX := Hid.mk hSX
  clear hSX
  go_wp2_with fail
  refine bodyPost_ret (told_res _ _ (w.heap.size + 1) _ _ rfl rfl HSX.out rfl) rfl ?_
  exact ⟨rfl, set5_below HB1.out (Nat.le_succ _) _ _ _ _ _⟩
set_option maxHeartbeats 4000000 in
set_option maxRecDepth 100000 in
theorem told_byte (a : Option Addr) (n cap : Nat) (k : Int) (next left : Int) (done : Bool) (b : Option Addr) (m mc : Nat) (w : World) (hl : n ≤ maxLen) (hm : m ≤ maxLen) (hE : sdE n k next left done = 0) (y : Addr) (c0 : Nat) (hc0 : c0 < 256) (hb : b = some y) (h3 : m = 3) (hy : w.cell? y = some (.int .u8 (c0 : Int))) (hc : ¬ (48 ≤ c0 ∧ c0 ≤ 50)) :
    Calls Try.prog 17 #[sdV a n cap k next left done, .slice b m mc] w fun e w' => e = .returned (.tuple #[sdV none 0 0 0 0 0 false, .int .i64 4]) ∧ Below w.heap.size w w' := by
  have HCK := Hid.mk (fun W => checkSender_any a n cap k next left done W hl)
  rw [hE] at HCK
  obtain ⟨hA, hZ, hB⟩ := two5 w 28 (.slice a n cap) (.int .i64 k) (.int .i64 next) (.int .i64 left) (.bool done) (.slice none 0 0) (.int .i64 0) (.int .i64 0) (.int .i64 0) (.bool false)
  have HA := Hid.mk hA
  have HZ := Hid.mk hZ
  have HB := Hid.mk hB
  obtain ⟨a0, a1, a2, a3, a4⟩ := hA.cells
  unfold maxLen at hm
  subst hb
  subst h3
  have hW := fun W => pwithin_any (c0 : Int) 48 50 W
  simp only [show inP (c0 : Int) 48 50 = false from inP_no (by omega)] at hW
  have hc0' : (c0 : Int) ≤ 255 := by omega
  have HY := Hid.mk hy
  clear hy hc
  clear hA hZ hB hl
  unfold sdV at HCK ⊢
  go_enter Try.func17, Try.ntmps17
  go_wp2_with fail
  refine (HCK.out _).mono ?_
  rintro e w1 ⟨rfl, hb1⟩
  have HA1 := Hid.mk (HA.out.kept hb1)
  have HZ1 := Hid.mk (HZ.out.kept hb1)
  have HB1 := Hid.mk (bl2 HB.out hb1)
  clear a0 a1 a2 a3 a4 HA HZ HB HCK hb1
  have c1 := cell_kept HB1.out HY.out
  obtain ⟨⟨z0, z1, z2, z3, z4⟩, ⟨y0, y1, y2, y3, y4⟩, ⟨p1, q1⟩, ⟨p2, q2⟩, ⟨p3, q3⟩, ⟨p4, q4⟩, hSX⟩ := HZ1.out.ready (.slice none 0 0) (.int .i64 0) (.int .i64 0) (.int .i64 0) (.bool false)
  have HSX := Hid.mk hSX
  clear hSX
  go_wp2_with fail
  refine (hW _).mono ?_
  rintro e w2 ⟨rfl, hw2⟩
  rw [hw2]
  clear hw2
  go_wp2_with fail
  refine bodyPost_ret (told_res _ _ (w.heap.size + 1) _ _ rfl rfl HSX.out rfl) rfl ?_
  exact ⟨rfl, set5_below HB1.out (Nat.le_succ _) _ _ _ _ _⟩
set_option maxHeartbeats 4000000 in
set_option maxRecDepth 100000 in
theorem told_done (a : Option Addr) (n cap : Nat) (k : Int) (next left : Int) (b : Option Addr) (m mc : Nat) (w : World) (hl : n ≤ maxLen) (hm : m ≤ maxLen) (hE : sdE n k next left true = 0) (y : Addr) (c0 : Nat) (hc0 : c0 < 256) (hb : b = some y) (h3 : m = 3) (hy : w.cell? y = some (.int .u8 (c0 : Int))) (hc : 48 ≤ c0 ∧ c0 ≤ 50) :
    Calls Try.prog 17 #[sdV a n cap k next left true, .slice b m mc] w fun e w' => e = .returned (.tuple #[sdV none 0 0 0 0 0 false, .int .i64 12]) ∧ Below w.heap.size w w' := by
  have HCK := Hid.mk (fun W => checkSender_any a n cap k next left true W hl)
  rw [hE] at HCK
  obtain ⟨hA, hZ, hB⟩ := two5 w 28 (.slice a n cap) (.int .i64 k) (.int .i64 next) (.int .i64 left) (.bool true) (.slice none 0 0) (.int .i64 0) (.int .i64 0) (.int .i64 0) (.bool false)
  have HA := Hid.mk hA
  have HZ := Hid.mk hZ
  have HB := Hid.mk hB
  obtain ⟨a0, a1, a2, a3, a4⟩ := hA.cells
  unfold maxLen at hm
  subst hb
  subst h3
  have hW := fun W => pwithin_any (c0 : Int) 48 50 W
  simp only [show inP (c0 : Int) 48 50 = true from inP_yes (by omega)] at hW
  have hc0' : (c0 : Int) ≤ 255 := by omega
  have HY := Hid.mk hy
  clear hy hc
  clear hA hZ hB hl
  unfold sdV at HCK ⊢
  go_enter Try.func17, Try.ntmps17
  go_wp2_with fail
  refine (HCK.out _).mono ?_
  rintro e w1 ⟨rfl, hb1⟩
  have HA1 := Hid.mk (HA.out.kept hb1)
  have HZ1 := Hid.mk (HZ.out.kept hb1)
  have HB1 := Hid.mk (bl2 HB.out hb1)
  clear a0 a1 a2 a3 a4 HA HZ HB HCK hb1
  obtain ⟨a0, a1, a2, a3, a4⟩ := HA1.out.cells
  have c1 := cell_kept HB1.out HY.out
  obtain ⟨⟨z0, z1, z2, z3, z4⟩, ⟨y0, y1, y2, y3, y4⟩, ⟨p1, q1⟩, ⟨p2, q2⟩, ⟨p3, q3⟩, ⟨p4, q4⟩, hSX⟩ := HZ1.out.ready (.slice none 0 0) (.int .i64 0) (.int .i64 0) (.int .i64 0) (.bool false)
  have HSX := Hid.mk hSX
  clear hSX
  go_wp2_with fail
  refine (hW _).mono ?_
  rintro e w2 ⟨rfl, hw2⟩
  rw [hw2]
  clear hw2
  go_wp2_with fail
  refine bodyPost_ret (told_res _ _ (w.heap.size + 1) _ _ rfl rfl HSX.out rfl) rfl ?_
  exact ⟨rfl, set5_below HB1.out (Nat.le_succ _) _ _ _ _ _⟩
set_option maxHeartbeats 4000000 in
set_option maxRecDepth 100000 in
theorem told_left (a : Option Addr) (n cap : Nat) (k : Int) (next left : Int) (b : Option Addr) (m mc : Nat) (w : World) (hl : n ≤ maxLen) (hm : m ≤ maxLen) (hE : sdE n k next left false = 0) (hlf : left ≠ -1) (y : Addr) (c0 : Nat) (hc0 : c0 < 256) (hb : b = some y) (h3 : m = 3) (hy : w.cell? y = some (.int .u8 (c0 : Int))) (hc : 48 ≤ c0 ∧ c0 ≤ 50) :
    Calls Try.prog 17 #[sdV a n cap k next left false, .slice b m mc] w fun e w' => e = .returned (.tuple #[sdV none 0 0 0 0 0 false, .int .i64 12]) ∧ Below w.heap.size w w' := by
  have HCK := Hid.mk (fun W => checkSender_any a n cap k next left false W hl)
  rw [hE] at HCK
  obtain ⟨hA, hZ, hB⟩ := two5 w 28 (.slice a n cap) (.int .i64 k) (.int .i64 next) (.int .i64 left) (.bool false) (.slice none 0 0) (.int .i64 0) (.int .i64 0) (.int .i64 0) (.bool false)
  have HA := Hid.mk hA
  have HZ := Hid.mk hZ
  have HB := Hid.mk hB
  obtain ⟨a0, a1, a2, a3, a4⟩ := hA.cells
  unfold maxLen at hm
  subst hb
  subst h3
  have hW := fun W => pwithin_any (c0 : Int) 48 50 W
  simp only [show inP (c0 : Int) 48 50 = true from inP_yes (by omega)] at hW
  have hc0' : (c0 : Int) ≤ 255 := by omega
  have HY := Hid.mk hy
  clear hy hc
  have hlf' : (left != -1) = true := by simpa using hlf
  clear hlf
  clear hA hZ hB hl
  unfold sdV at HCK ⊢
  go_enter Try.func17, Try.ntmps17
  go_wp2_with fail
  refine (HCK.out _).mono ?_
  rintro e w1 ⟨rfl, hb1⟩
  have HA1 := Hid.mk (HA.out.kept hb1)
  have HZ1 := Hid.mk (HZ.out.kept hb1)
  have HB1 := Hid.mk (bl2 HB.out hb1)
  clear a0 a1 a2 a3 a4 HA HZ HB HCK hb1
  obtain ⟨a0, a1, a2, a3, a4⟩ := HA1.out.cells
  have c1 := cell_kept HB1.out HY.out
  obtain ⟨⟨z0, z1, z2, z3, z4⟩, ⟨y0, y1, y2, y3, y4⟩, ⟨p1, q1⟩, ⟨p2, q2⟩, ⟨p3, q3⟩, ⟨p4, q4⟩, hSX⟩ := HZ1.out.ready (.slice none 0 0) (.int .i64 0) (.int .i64 0) (.int .i64 0) (.bool false)
  have HSX := Hid.mk hSX
  clear hSX
  go_wp2_with fail
  refine (hW _).mono ?_
  rintro e w2 ⟨rfl, hw2⟩
  rw [hw2]
  clear hw2
  go_wp2_with fail
  refine bodyPost_ret (told_res _ _ (w.heap.size + 1) _ _ rfl rfl HSX.out rfl) rfl ?_
  exact ⟨rfl, set5_below HB1.out (Nat.le_succ _) _ _ _ _ _⟩
set_option maxHeartbeats 4000000 in
set_option maxRecDepth 100000 in
theorem told_full (a : Option Addr) (n cap : Nat) (k : Int) (next : Int) (b : Option Addr) (m mc : Nat) (w : World) (hl : n ≤ maxLen) (hm : m ≤ maxLen) (hE : sdE n k next (-1) false = 0) (y : Addr) (hb : b = some y) (h3 : m = 3) (hy : w.cell? y = some (.int .u8 50)) :
    Calls Try.prog 17 #[sdV a n cap k next (-1) false, .slice b m mc] w fun e w' => e = .returned (.tuple #[sdV none 0 0 0 0 0 false, .int .i64 11]) ∧ Below w.heap.size w w' := by
  have HCK := Hid.mk (fun W => checkSender_any a n cap k next (-1) false W hl)
  rw [hE] at HCK
  obtain ⟨hA, hZ, hB⟩ := two5 w 28 (.slice a n cap) (.int .i64 k) (.int .i64 next) (.int .i64 (-1)) (.bool false) (.slice none 0 0) (.int .i64 0) (.int .i64 0) (.int .i64 0) (.bool false)
  have HA := Hid.mk hA
  have HZ := Hid.mk hZ
  have HB := Hid.mk hB
  obtain ⟨a0, a1, a2, a3, a4⟩ := hA.cells
  unfold maxLen at hm
  subst hb
  subst h3
  have hW := fun W => pwithin_any 50 48 50 W
  simp only [show inP 50 48 50 = true from inP_yes (by omega)] at hW
  have HY := Hid.mk hy
  clear hy
  clear hA hZ hB hl
  unfold sdV at HCK ⊢
  go_enter Try.func17, Try.ntmps17
  go_wp2_with fail
  refine (HCK.out _).mono ?_
  rintro e w1 ⟨rfl, hb1⟩
  have HA1 := Hid.mk (HA.out.kept hb1)
  have HZ1 := Hid.mk (HZ.out.kept hb1)
  have HB1 := Hid.mk (bl2 HB.out hb1)
  clear a0 a1 a2 a3 a4 HA HZ HB HCK hb1
  obtain ⟨a0, a1, a2, a3, a4⟩ := HA1.out.cells
  have c1 := cell_kept HB1.out HY.out
  obtain ⟨⟨z0, z1, z2, z3, z4⟩, ⟨y0, y1, y2, y3, y4⟩, ⟨p1, q1⟩, ⟨p2, q2⟩, ⟨p3, q3⟩, ⟨p4, q4⟩, hSX⟩ := HZ1.out.ready (.slice none 0 0) (.int .i64 0) (.int .i64 0) (.int .i64 0) (.bool false)
  have HSX := Hid.mk hSX
  clear hSX
  go_wp2_with fail
  refine (hW _).mono ?_
  rintro e w2 ⟨rfl, hw2⟩
  rw [hw2]
  clear hw2
  go_wp2_with fail
  refine bodyPost_ret (told_res _ _ (w.heap.size + 1) _ _ rfl rfl HSX.out rfl) rfl ?_
  exact ⟨rfl, set5_below HB1.out (Nat.le_succ _) _ _ _ _ _⟩
set_option maxHeartbeats 4000000 in
set_option maxRecDepth 100000 in
theorem told_wait (a : Option Addr) (n cap : Nat) (k : Int) (next : Int) (b : Option Addr) (m mc : Nat) (w : World) (hl : n ≤ maxLen) (hm : m ≤ maxLen) (hE : sdE n k next (-1) false = 0) (x : Addr) (l : List UInt8) (ha : a = some x) (hD : IsBytes w (some x) n cap l) (hn : 1 ≤ n) (hn3 : n ≤ 300) (y : Addr) (hb : b = some y) (h3 : m = 3) (hy : w.cell? y = some (.int .u8 49)) :
    Calls Try.prog 17 #[sdV a n cap k next (-1) false, .slice b m mc] w fun e w' => ∃ g c, e = .returned (.tuple #[sdV (some ⟨g, 0, none⟩) n c k next (-1) false, .int .i64 0]) ∧ w.heap.size ≤ g ∧ IsBytes w' (some ⟨g, 0, none⟩) n c l ∧ Below w.heap.size w w' := by
  have HCK := Hid.mk (fun W => checkSender_any a n cap k next (-1) false W hl)
  rw [hE] at HCK
  obtain ⟨hA, hZ, hB⟩ := two5 w 28 (.slice a n cap) (.int .i64 k) (.int .i64 next) (.int .i64 (-1)) (.bool false) (.slice none 0 0) (.int .i64 0) (.int .i64 0) (.int .i64 0) (.bool false)
  have HA := Hid.mk hA
  have HZ := Hid.mk hZ
  have HB := Hid.mk hB
  obtain ⟨a0, a1, a2, a3, a4⟩ := hA.cells
  unfold maxLen at hm
  have hxl := isBytes_lt hD (by omega)
  have HD := Hid.mk hD
  have HCL := Hid.mk (fun W (h : IsBytes W (some x) n cap l) => cloneBy_some x n cap l W h (by omega))
  subst ha
  clear hD
  subst hb
  subst h3
  have hW := fun W => pwithin_any 49 48 50 W
  simp only [show inP 49 48 50 = true from inP_yes (by omega)] at hW
  have HY := Hid.mk hy
  clear hy
  clear hA hZ hB hl
  unfold sdV at HCK ⊢
  go_enter Try.func17, Try.ntmps17
  go_wp2_with fail
  refine (HCK.out _).mono ?_
  rintro e w1 ⟨rfl, hb1⟩
  have HA1 := Hid.mk (HA.out.kept hb1)
  have HZ1 := Hid.mk (HZ.out.kept hb1)
  have HB1 := Hid.mk (bl2 HB.out hb1)
  clear a0 a1 a2 a3 a4 HA HZ HB HCK hb1
  obtain ⟨a0, a1, a2, a3, a4⟩ := HA1.out.cells
  have c1 := cell_kept HB1.out HY.out
  go_wp2_with fail
  refine (hW _).mono ?_
  rintro e w2 ⟨rfl, hw2⟩
  rw [hw2]
  clear hw2
  go_wp2_with fail
  have HA2 := HA1
  have HZ2 := HZ1
  have HB2 := HB1
  have HD2 := Hid.mk (isBytes_below HD.out HB1.out)
  clear a0 a1 a2 a3 a4 c1 HA1 HZ1 HB1 HD HY
  refine (HCL.out _ HD2.out).mono ?_
  rintro e w3 ⟨g, c, rfl, hown, hg, hb3⟩
  have HA3 := Hid.mk (HA2.out.kept hb3)
  have HZ3 := Hid.mk (HZ2.out.kept hb3)
  have HB3 := Hid.mk (bl2 HB2.out hb3)
  have hgz : w.heap.size + 1 < g := Nat.lt_of_lt_of_le HZ2.out.lt hg
  have HO := Hid.mk (isBytes_set5 (isBytes_set (isBytes_ownG hown) (show g ≠ w.heap.size by omega) 0 (.slice (some ⟨g, 0, none⟩) n c)) (show g ≠ w.heap.size + 1 by omega) (.slice (some ⟨g, 0, none⟩) n c) (.int .i64 k) (.int .i64 next) (.int .i64 (-1)) (.bool false))
  obtain ⟨a0, -, -, -, -⟩ := HA3.out.cells
  have f0 := HA3.out.frozen 0
  have hA4 := (HA3.out.set (.slice (some ⟨g, 0, none⟩) n c)).1.1
  obtain ⟨b0, b1, b2, b3, b4⟩ := hA4.cells
  have HB4 := Hid.mk (HB3.out.setCell (p := ⟨w.heap.size, 0, none⟩) (Nat.le_refl _) (.slice (some ⟨g, 0, none⟩) n c))
  obtain ⟨⟨z0, z1, z2, z3, z4⟩, ⟨y0, y1, y2, y3, y4⟩, ⟨p1, q1⟩, ⟨p2, q2⟩, ⟨p3, q3⟩, ⟨p4, q4⟩, hSX⟩ := (HZ3.out.far (show w.heap.size + 1 ≠ w.heap.size by omega) 0 (.slice (some ⟨g, 0, none⟩) n c)).ready (.slice (some ⟨g, 0, none⟩) n c) (.int .i64 k) (.int .i64 next) (.int .i64 (-1)) (.bool false)
  have HSX := Hid.mk hSX
  have HGZ := Hid.mk hgz
  clear hSX hown hg hb3 HA2 HZ2 HB2 HD2 HA3 HZ3 HB3 hA4 HCL hgz
  go_wp2_with fail
  refine bodyPost_ret (told_res _ _ (w.heap.size + 1) _ _ rfl rfl HSX.out rfl) rfl ?_
  exact ⟨g, c, rfl, by have := HGZ.out; omega, HO.out, set5_below HB4.out (Nat.le_succ _) _ _ _ _ _⟩
set_option maxHeartbeats 4000000 in
set_option maxRecDepth 100000 in
theorem told_go (a : Option Addr) (n cap : Nat) (k : Int) (next : Int) (b : Option Addr) (m mc : Nat) (w : World) (hl : n ≤ maxLen) (hm : m ≤ maxLen) (hE : sdE n k next (-1) false = 0) (x : Addr) (l : List UInt8) (ha : a = some x) (hD : IsBytes w (some x) n cap l) (hn : 1 ≤ n) (hn3 : n ≤ 300) (c1 : Nat) (hc1 : c1 < 256) (hy2 : ∀ y, b = some y → w.cell? ⟨y.block, y.off + 1, none⟩ = some (.int .u8 (c1 : Int))) (y : Addr) (hb : b = some y) (h3 : m = 3) (hy : w.cell? y = some (.int .u8 48)) :
    Calls Try.prog 17 #[sdV a n cap k next (-1) false, .slice b m mc] w fun e w' => ∃ g c, e = .returned (.tuple #[sdV (some ⟨g, 0, none⟩) n c k next (c1 : Int) false, .int .i64 0]) ∧ w.heap.size ≤ g ∧ IsBytes w' (some ⟨g, 0, none⟩) n c l ∧ Below w.heap.size w w' := by
  have HCK := Hid.mk (fun W => checkSender_any a n cap k next (-1) false W hl)
  rw [hE] at HCK
  obtain ⟨hA, hZ, hB⟩ := two5 w 28 (.slice a n cap) (.int .i64 k) (.int .i64 next) (.int .i64 (-1)) (.bool false) (.slice none 0 0) (.int .i64 0) (.int .i64 0) (.int .i64 0) (.bool false)
  have HA := Hid.mk hA
  have HZ := Hid.mk hZ
  have HB := Hid.mk hB
  obtain ⟨a0, a1, a2, a3, a4⟩ := hA.cells
  unfold maxLen at hm
  have hxl := isBytes_lt hD (by omega)
  have HD := Hid.mk hD
  have HCL := Hid.mk (fun W (h : IsBytes W (some x) n cap l) => cloneBy_some x n cap l W h (by omega))
  subst ha
  clear hD
  have HY2 := Hid.mk (hy2 y hb)
  have hc1' : (c1 : Int) ≤ 255 := by omega
  clear hy2
  subst hb
  subst h3
  have hW := fun W => pwithin_any 48 48 50 W
  simp only [show inP 48 48 50 = true from inP_yes (by omega)] at hW
  have HY := Hid.mk hy
  clear hy
  clear hA hZ hB hl
  unfold sdV at HCK ⊢
  go_enter Try.func17, Try.ntmps17
  go_wp2_with fail
  refine (HCK.out _).mono ?_
  rintro e w1 ⟨rfl, hb1⟩
  have HA1 := Hid.mk (HA.out.kept hb1)
  have HZ1 := Hid.mk (HZ.out.kept hb1)
  have HB1 := Hid.mk (bl2 HB.out hb1)
  clear a0 a1 a2 a3 a4 HA HZ HB HCK hb1
  obtain ⟨a0, a1, a2, a3, a4⟩ := HA1.out.cells
  have d1 := cell_kept HB1.out HY.out
  have c2 := cell_kept HB1.out HY2.out
  have f3 := HA1.out.frozen 3
  go_wp2_with fail
  refine (hW _).mono ?_
  rintro e w2 ⟨rfl, hw2⟩
  rw [hw2]
  clear hw2
  go_wp2_with fail
  have HA2 := Hid.mk (HA1.out.set (.int .i64 (c1 : Int))).2.1
  have HZ2 := Hid.mk (HZ1.out.far (show w.heap.size + 1 ≠ w.heap.size by omega) 3 (.int .i64 (c1 : Int)))
  have HB2 := Hid.mk (HB1.out.setCell (p := ⟨w.heap.size, 3, none⟩) (Nat.le_refl _) (.int .i64 (c1 : Int)))
  have HD2 := Hid.mk (isBytes_set (isBytes_below HD.out HB1.out) (show x.block ≠ w.heap.size by omega) 3 (.int .i64 (c1 : Int)))
  generalize w1.setCell ⟨w.heap.size, 3, none⟩ (.int .i64 (c1 : Int)) = W2 at *
  clear a0 a1 a2 a3 a4 d1 HA1 HZ1 HB1 HD HY HY2 c2 f3
  refine (HCL.out _ HD2.out).mono ?_
  rintro e w3 ⟨g, c, rfl, hown, hg, hb3⟩
  have HA3 := Hid.mk (HA2.out.kept hb3)
  have HZ3 := Hid.mk (HZ2.out.kept hb3)
  have HB3 := Hid.mk (bl2 HB2.out hb3)
  have hgz : w.heap.size + 1 < g := Nat.lt_of_lt_of_le HZ2.out.lt hg
  have HO := Hid.mk (isBytes_set5 (isBytes_set (isBytes_ownG hown) (show g ≠ w.heap.size by omega) 0 (.slice (some ⟨g, 0, none⟩) n c)) (show g ≠ w.heap.size + 1 by omega) (.slice (some ⟨g, 0, none⟩) n c) (.int .i64 k) (.int .i64 next) (.int .i64 (c1 : Int)) (.bool false))
  obtain ⟨a0, -, -, -, -⟩ := HA3.out.cells
  have f0 := HA3.out.frozen 0
  have hA4 := (HA3.out.set (.slice (some ⟨g, 0, none⟩) n c)).1.1
  obtain ⟨b0, b1, b2, b3, b4⟩ := hA4.cells
  have HB4 := Hid.mk (HB3.out.setCell (p := ⟨w.heap.size, 0, none⟩) (Nat.le_refl _) (.slice (some ⟨g, 0, none⟩) n c))
  obtain ⟨⟨z0, z1, z2, z3, z4⟩, ⟨y0, y1, y2, y3, y4⟩, ⟨p1, q1⟩, ⟨p2, q2⟩, ⟨p3, q3⟩, ⟨p4, q4⟩, hSX⟩ := (HZ3.out.far (show w.heap.size + 1 ≠ w.heap.size by omega) 0 (.slice (some ⟨g, 0, none⟩) n c)).ready (.slice (some ⟨g, 0, none⟩) n c) (.int .i64 k) (.int .i64 next) (.int .i64 (c1 : Int)) (.bool false)
  have HSX := Hid.mk hSX
  have HGZ := Hid.mk hgz
  clear hSX hown hg hb3 HA2 HZ2 HB2 HD2 HA3 HZ3 HB3 hA4 HCL hgz
  go_wp2_with fail
  refine bodyPost_ret (told_res _ _ (w.heap.size + 1) _ _ rfl rfl HSX.out rfl) rfl ?_
  exact ⟨g, c, rfl, by have := HGZ.out; omega, HO.out, set5_below HB4.out (Nat.le_succ _) _ _ _ _ _⟩
end Bw
end Go.Proofs.Ytgjnfmbmndnihaa
