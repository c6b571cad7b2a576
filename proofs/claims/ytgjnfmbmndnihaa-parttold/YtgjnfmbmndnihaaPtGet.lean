/- What package part's Get answers. -/
import Derived.Test.YtgjnfmbmndnihaaPtGetN
import Derived.Test.YtgjnfmbmndnihaaPtGet1
import Derived.Test.YtgjnfmbmndnihaaPtGetter
namespace Go.Proofs.Ytgjnfmbmndnihaa
open Go.ChangeShapes Go.WideShapes Go.ChangeAt Go.RowKit
namespace Bw
open Bm
set_option linter.unusedVariables false
/-- what comes of a part: the getter, the answer, the message, the error -/
structure GX where
  want : Int
  next : Int
  block : Int
  left : Int
  dt : List UInt8
  ans : List UInt8
  whole : List UInt8
  e : Int
def Got (X : GX) (w w' : World) (r : Ending) : Prop := ∃ o n c a1 n1 c1 a2 n2 c2, r = .returned (.tuple #[gtV X.want o n c X.next X.block X.left, .slice a1 n1 c1, .slice a2 n2 c2, .int .i64 X.e]) ∧ FB w w' o n c X.dt ∧ FB w w' a1 n1 c1 X.ans ∧ FB w w' a2 n2 c2 X.whole ∧ (X.whole = [] → a2 = none) ∧ Below w.heap.size w w'
/-- an error alone -/
def badX (e : Int) : GX := ⟨0, 0, 0, 0, [], [], [], e⟩
/-- of one part -/
def oneX (block : Int) (p : List UInt8) : GX :=
  if 1 ≤ (p.getD 0 0).toNat % 16 ∧ (p.getD 0 0).toNat % 16 ≤ 7 ∧ (p.getD 0 0).toNat % 16 = p.length - 1 then ⟨0, 0, block, 0, [], [], p.drop 1, 0⟩ else badX 4
/-- how many bytes a first part says -/
def saysN (p : List UInt8) : Nat := (p.getD 0 0).toNat % 16 * 256 + (p.getD 1 0).toNat
/-- of a first part -/
def firstX (block : Int) (p : List UInt8) : GX :=
  if p.length ≠ 8 then badX 4 else if saysN p ≤ 7 then badX 4 else if 300 < saysN p then ⟨0, 0, block, 0, [], [50, 0, 0], [], 0⟩
  else ⟨(saysN p : Nat), 1, block, block, p.drop 2, flowL block.toNat, [], 0⟩
/-- of a next part -/
def nextX (want next block left : Int) (dt p : List UInt8) : GX :=
  if want = 0 then badX 12 else if next ≠ (((p.getD 0 0).toNat % 16 : Nat) : Int) then badX 14
  else if p.length ≠ 1 + min (want.toNat - dt.length) 7 then badX 4
  else if dt.length + (p.length - 1) = want.toNat then ⟨0, 0, block, 0, [], [], dt ++ p.drop 1, 0⟩
  else ⟨want, ((((p.getD 0 0).toNat % 16 + 1) % 16 : Nat) : Int), block, if block = 0 then left else if left = 1 then block else left - 1, dt ++ p.drop 1, if block = 0 then [] else if left = 1 then flowL block.toNat else [], [], 0⟩
/-- what Get tells -/
def getX (want next block left : Int) (dt p : List UInt8) : GX :=
  if gtE dt.length want next block left ≠ 0 then badX (gtE dt.length want next block left)
  else if p.length = 0 then badX 7 else if 8 < p.length then badX 2
  else if (p.getD 0 0).toNat / 16 = 0 then oneX block p else if (p.getD 0 0).toNat / 16 = 1 then firstX block p
  else if (p.getD 0 0).toNat / 16 = 2 then nextX want next block left dt p else badX 8
theorem get_res (tmps : Array Value) (w : World) (g : Nat) (cs : Array Value) (x y z : Value) (hp : tmps.getD 4 undef = .pointer (some ⟨g, 0, none⟩)) (hx : tmps.getD 5 undef = x) (hy : tmps.getD 6 undef = y) (hz : tmps.getD 7 undef = z) (h : w.heap[g]? = some (.cells cs 44 (0, 0))) (hs : cs.size = 5) :
    (results Try.f21 tmps).run Try.prog w = .ok (.tuple #[.agg cs, x, y, z]) w := by
  have hl := run_loadVar_row (P := Try.prog) w g 44 44 cs (0, 0) _ h Try.underlying44 rfl (by rw [gt_i, hs])
  have hp' : tmps[4]?.getD undef = .pointer (some ⟨g, 0, none⟩) := by simpa using hp
  have hx' : tmps[5]?.getD undef = x := by simpa using hx
  have hy' : tmps[6]?.getD undef = y := by simpa using hy
  have hz' : tmps[7]?.getD undef = z := by simpa using hz
  simp [results, hp', hx', hy', hz', asAddr, hl]
theorem got_bad {w w' : World} {r : Ending} {e : Int} (h : r = .returned (.tuple #[gtV 0 none 0 0 0 0 0, .slice none 0 0, .slice none 0 0, .int .i64 e])) (hb : Below w.heap.size w w') : Got (badX e) w w' r :=
  ⟨none, 0, 0, none, 0, 0, none, 0, 0, h, FB.nil _ _, FB.nil _ _, FB.nil _ _, fun _ => rfl, hb⟩
set_option maxHeartbeats 8000000 in
set_option maxRecDepth 100000 in
theorem get_bad (want : Int) (a : Option Addr) (n cap : Nat) (next block left : Int) (b : Option Addr) (m mc : Nat) (w : World) (hl : n ≤ maxLen) (hm : m ≤ maxLen) (hE : gtE n want next block left ≠ 0) :
    Calls Try.prog 21 #[gtV want a n cap next block left, .slice b m mc] w fun e w' => Got (badX (gtE n want next block left)) w w' e := by
  have HCK := Hid.mk (fun W => checkGetter_any a n cap want next block left W hl)
  skip
  obtain ⟨hA, hZ, hB⟩ := two5 w 44 (.int .i64 want) (.slice a n cap) (.int .i64 next) (.int .i64 block) (.int .i64 left) (.int .i64 0) (.slice none 0 0) (.int .i64 0) (.int .i64 0) (.int .i64 0)
  have HA := Hid.mk hA
  have HZ := Hid.mk hZ
  have HB := Hid.mk hB
  obtain ⟨a0, a1, a2, a3, a4⟩ := hA.cells
  unfold maxLen at hm
  have hne : (gtE n want next block left != 0) = true := by simpa using hE
  clear hE
  generalize gtE n want next block left = E at *
  clear hA hZ hB hl
  unfold gtV at HCK ⊢
  go_enter Try.func21, Try.ntmps21
  go_wp2_with fail
  refine (HCK.out _).mono ?_
  rintro e w1 ⟨rfl, hb1⟩
  have HA1 := Hid.mk (HA.out.kept hb1)
  have HZ1 := Hid.mk (HZ.out.kept hb1)
  have HB1 := Hid.mk (bl2 HB.out hb1)
  clear a0 a1 a2 a3 a4 HA HZ HB HCK hb1
  obtain ⟨⟨z0, z1, z2, z3, z4⟩, ⟨y0, y1, y2, y3, y4⟩, ⟨p1, q1⟩, ⟨p2, q2⟩, ⟨p3, q3⟩, ⟨p4, q4⟩, hSX⟩ := HZ1.out.ready (.int .i64 0) (.slice none 0 0) (.int .i64 0) (.int .i64 0) (.int .i64 0)
  have HSX := Hid.mk hSX
  clear hSX
  go_wp2_with fail
  refine bodyPost_ret (get_res _ _ (w.heap.size + 1) _ _ _ _ rfl rfl rfl rfl HSX.out rfl) rfl ?_
  exact got_bad rfl (set5_below HB1.out (Nat.le_succ _) _ _ _ _ _)
set_option maxHeartbeats 8000000 in
set_option maxRecDepth 100000 in
theorem get_short (want : Int) (a : Option Addr) (n cap : Nat) (next block left : Int) (b : Option Addr) (m mc : Nat) (w : World) (hl : n ≤ maxLen) (hm : m ≤ maxLen) (hE : gtE n want next block left = 0) (h0 : m = 0) :
    Calls Try.prog 21 #[gtV want a n cap next block left, .slice b m mc] w fun e w' => Got (badX 7) w w' e := by
  have HCK := Hid.mk (fun W => checkGetter_any a n cap want next block left W hl)
  rw [hE] at HCK
  obtain ⟨hA, hZ, hB⟩ := two5 w 44 (.int .i64 want) (.slice a n cap) (.int .i64 next) (.int .i64 block) (.int .i64 left) (.int .i64 0) (.slice none 0 0) (.int .i64 0) (.int .i64 0) (.int .i64 0)
  have HA := Hid.mk hA
  have HZ := Hid.mk hZ
  have HB := Hid.mk hB
  obtain ⟨a0, a1, a2, a3, a4⟩ := hA.cells
  unfold maxLen at hm
  subst h0
  clear hA hZ hB hl
  unfold gtV at HCK ⊢
  go_enter Try.func21, Try.ntmps21
  go_wp2_with fail
  refine (HCK.out _).mono ?_
  rintro e w1 ⟨rfl, hb1⟩
  have HA1 := Hid.mk (HA.out.kept hb1)
  have HZ1 := Hid.mk (HZ.out.kept hb1)
  have HB1 := Hid.mk (bl2 HB.out hb1)
  clear a0 a1 a2 a3 a4 HA HZ HB HCK hb1
  obtain ⟨⟨z0, z1, z2, z3, z4⟩, ⟨y0, y1, y2, y3, y4⟩, ⟨p1, q1⟩, ⟨p2, q2⟩, ⟨p3, q3⟩, ⟨p4, q4⟩, hSX⟩ := HZ1.out.ready (.int .i64 0) (.slice none 0 0) (.int .i64 0) (.int .i64 0) (.int .i64 0)
  have HSX := Hid.mk hSX
  clear hSX
  go_wp2_with fail
  refine bodyPost_ret (get_res _ _ (w.heap.size + 1) _ _ _ _ rfl rfl rfl rfl HSX.out rfl) rfl ?_
  exact got_bad rfl (set5_below HB1.out (Nat.le_succ _) _ _ _ _ _)
set_option maxHeartbeats 8000000 in
set_option maxRecDepth 100000 in
theorem get_many (want : Int) (a : Option Addr) (n cap : Nat) (next block left : Int) (b : Option Addr) (m mc : Nat) (w : World) (hl : n ≤ maxLen) (hm : m ≤ maxLen) (hE : gtE n want next block left = 0) (h0 : 8 < m) :
    Calls Try.prog 21 #[gtV want a n cap next block left, .slice b m mc] w fun e w' => Got (badX 2) w w' e := by
  have HCK := Hid.mk (fun W => checkGetter_any a n cap want next block left W hl)
  rw [hE] at HCK
  obtain ⟨hA, hZ, hB⟩ := two5 w 44 (.int .i64 want) (.slice a n cap) (.int .i64 next) (.int .i64 block) (.int .i64 left) (.int .i64 0) (.slice none 0 0) (.int .i64 0) (.int .i64 0) (.int .i64 0)
  have HA := Hid.mk hA
  have HZ := Hid.mk hZ
  have HB := Hid.mk hB
  obtain ⟨a0, a1, a2, a3, a4⟩ := hA.cells
  unfold maxLen at hm
  have h0' : ((m : Int) == 0) = false := by simp; omega
  have h8' : (8 : Int) < (m : Int) := by omega
  clear hA hZ hB hl
  unfold gtV at HCK ⊢
  go_enter Try.func21, Try.ntmps21
  go_wp2_with fail
  refine (HCK.out _).mono ?_
  rintro e w1 ⟨rfl, hb1⟩
  have HA1 := Hid.mk (HA.out.kept hb1)
  have HZ1 := Hid.mk (HZ.out.kept hb1)
  have HB1 := Hid.mk (bl2 HB.out hb1)
  clear a0 a1 a2 a3 a4 HA HZ HB HCK hb1
  obtain ⟨⟨z0, z1, z2, z3, z4⟩, ⟨y0, y1, y2, y3, y4⟩, ⟨p1, q1⟩, ⟨p2, q2⟩, ⟨p3, q3⟩, ⟨p4, q4⟩, hSX⟩ := HZ1.out.ready (.int .i64 0) (.slice none 0 0) (.int .i64 0) (.int .i64 0) (.int .i64 0)
  have HSX := Hid.mk hSX
  clear hSX
  go_wp2_with fail
  refine bodyPost_ret (get_res _ _ (w.heap.size + 1) _ _ _ _ rfl rfl rfl rfl HSX.out rfl) rfl ?_
  exact got_bad rfl (set5_below HB1.out (Nat.le_succ _) _ _ _ _ _)
set_option maxHeartbeats 8000000 in
set_option maxRecDepth 100000 in
theorem get_who (want : Int) (a : Option Addr) (n cap : Nat) (next block left : Int) (b : Option Addr) (m mc : Nat) (w : World) (hl : n ≤ maxLen) (hm : m ≤ maxLen) (hE : gtE n want next block left = 0) (y : Addr) (c0 : Nat) (hc0 : c0 < 256) (hb : b = some y) (hm1 : 1 ≤ m) (hm8 : m ≤ 8) (hy : w.cell? y = some (.int .u8 (c0 : Int))) (hk : 3 ≤ c0 / 16) :
    Calls Try.prog 21 #[gtV want a n cap next block left, .slice b m mc] w fun e w' => Got (badX 8) w w' e := by
  have HCK := Hid.mk (fun W => checkGetter_any a n cap want next block left W hl)
  rw [hE] at HCK
  obtain ⟨hA, hZ, hB⟩ := two5 w 44 (.int .i64 want) (.slice a n cap) (.int .i64 next) (.int .i64 block) (.int .i64 left) (.int .i64 0) (.slice none 0 0) (.int .i64 0) (.int .i64 0) (.int .i64 0)
  have HA := Hid.mk hA
  have HZ := Hid.mk hZ
  have HB := Hid.mk hB
  obtain ⟨a0, a1, a2, a3, a4⟩ := hA.cells
  unfold maxLen at hm
  subst hb
  have h0' : ((m : Int) == 0) = false := by simp; omega
  have h8' : ¬ ((8 : Int) < (m : Int)) := by omega
  have hc0' : (c0 : Int) ≤ 255 := by omega
  have hsh : (c0 : Int) / 16 = ((c0 / 16 : Nat) : Int) := by omega
  have hsh2 : (c0 : Int) / 2 ^ 4 = ((c0 / 16 : Nat) : Int) := by omega
  obtain ⟨kd, hkd⟩ : ∃ kd, kd = c0 / 16 := ⟨_, rfl⟩
  rw [← hkd] at hsh hsh2
  have hkd15 : (kd : Int) ≤ 15 := by omega
  have HY := Hid.mk hy
  have hm0 : 0 < m := by omega
  have hm0' : (0 : Int) < (m : Int) := by omega
  have k0 : ((kd : Int) == 0) = false := by simp; omega
  have k1 : ((kd : Int) == 1) = false := by simp; omega
  have k2 : ((kd : Int) == 2) = false := by simp; omega
  clear hy hkd hk
  clear hA hZ hB hl
  unfold gtV at HCK ⊢
  go_enter Try.func21, Try.ntmps21
  go_wp2_with fail
  refine (HCK.out _).mono ?_
  rintro e w1 ⟨rfl, hb1⟩
  have HA1 := Hid.mk (HA.out.kept hb1)
  have HZ1 := Hid.mk (HZ.out.kept hb1)
  have HB1 := Hid.mk (bl2 HB.out hb1)
  clear a0 a1 a2 a3 a4 HA HZ HB HCK hb1
  have c1 := cell_kept HB1.out HY.out
  obtain ⟨a0, a1, a2, a3, a4⟩ := HA1.out.cells
  obtain ⟨⟨z0, z1, z2, z3, z4⟩, ⟨y0, y1, y2, y3, y4⟩, ⟨p1, q1⟩, ⟨p2, q2⟩, ⟨p3, q3⟩, ⟨p4, q4⟩, hSX⟩ := HZ1.out.ready (.int .i64 0) (.slice none 0 0) (.int .i64 0) (.int .i64 0) (.int .i64 0)
  have HSX := Hid.mk hSX
  clear hSX
  go_wp2_with fail
  refine bodyPost_ret (get_res _ _ (w.heap.size + 1) _ _ _ _ rfl rfl rfl rfl HSX.out rfl) rfl ?_
  exact got_bad rfl (set5_below HB1.out (Nat.le_succ _) _ _ _ _ _)
set_option maxHeartbeats 8000000 in
set_option maxRecDepth 100000 in
theorem get_k0 (want : Int) (a : Option Addr) (n cap : Nat) (next block left : Int) (b : Option Addr) (m mc : Nat) (w : World) (hl : n ≤ maxLen) (hm : m ≤ maxLen) (hE : gtE n want next block left = 0) (y : Addr) (c0 : Nat) (hc0 : c0 < 256) (hb : b = some y) (hm1 : 1 ≤ m) (hm8 : m ≤ 8) (hy : w.cell? y = some (.int .u8 (c0 : Int))) (hk : c0 / 16 = 0) (X : GX) (hXo : X.ans = []) (HC : ∀ W, Below w.heap.size w W → Calls Try.prog 36 #[gtV want a n cap next block left, .slice b m mc] W fun e w' => ∃ o1 n1 e1 o2 n2 e2, e = .returned (.tuple #[gtV X.want o1 n1 e1 X.next X.block X.left, .slice o2 n2 e2, .int .i64 X.e]) ∧ FB W w' o1 n1 e1 X.dt ∧ FB W w' o2 n2 e2 X.whole ∧ (X.whole = [] → o2 = none) ∧ Below W.heap.size W w') :
    Calls Try.prog 21 #[gtV want a n cap next block left, .slice b m mc] w fun e w' => Got X w w' e := by
  have HCK := Hid.mk (fun W => checkGetter_any a n cap want next block left W hl)
  rw [hE] at HCK
  obtain ⟨hA, hZ, hB⟩ := two5 w 44 (.int .i64 want) (.slice a n cap) (.int .i64 next) (.int .i64 block) (.int .i64 left) (.int .i64 0) (.slice none 0 0) (.int .i64 0) (.int .i64 0) (.int .i64 0)
  have HA := Hid.mk hA
  have HZ := Hid.mk hZ
  have HB := Hid.mk hB
  obtain ⟨a0, a1, a2, a3, a4⟩ := hA.cells
  unfold maxLen at hm
  subst hb
  have h0' : ((m : Int) == 0) = false := by simp; omega
  have h8' : ¬ ((8 : Int) < (m : Int)) := by omega
  have hc0' : (c0 : Int) ≤ 255 := by omega
  have hsh : (c0 : Int) / 16 = ((c0 / 16 : Nat) : Int) := by omega
  have hsh2 : (c0 : Int) / 2 ^ 4 = ((c0 / 16 : Nat) : Int) := by omega
  obtain ⟨kd, hkd⟩ : ∃ kd, kd = c0 / 16 := ⟨_, rfl⟩
  rw [← hkd] at hsh hsh2
  have hkd15 : (kd : Int) ≤ 15 := by omega
  have HY := Hid.mk hy
  have hm0 : 0 < m := by omega
  have hm0' : (0 : Int) < (m : Int) := by omega
  have hkv : kd = 0 := by rw [hkd, hk]
  subst hkv
  clear hkd hy hk
  have HCC := Hid.mk HC
  unfold gtV at HCC
  clear HC
  clear hA hZ hB hl
  unfold gtV at HCK ⊢
  go_enter Try.func21, Try.ntmps21
  go_wp2_with fail
  refine (HCK.out _).mono ?_
  rintro e w1 ⟨rfl, hb1⟩
  have HA1 := Hid.mk (HA.out.kept hb1)
  have HZ1 := Hid.mk (HZ.out.kept hb1)
  have HB1 := Hid.mk (bl2 HB.out hb1)
  clear a0 a1 a2 a3 a4 HA HZ HB HCK hb1
  have c1 := cell_kept HB1.out HY.out
  obtain ⟨a0, a1, a2, a3, a4⟩ := HA1.out.cells
  go_wp2_with fail
  refine (HCC.out _ HB1.out).mono ?_
  rintro e w2 ⟨o1, n1, e1, o2, n2, e2, rfl, hf1, hf2, hwn, hb2⟩
  have HZ2 := Hid.mk (HZ1.out.kept hb2)
  have HB2 := Hid.mk (bl2 HB1.out hb2)
  have HF1 := Hid.mk hf1
  have HF2 := Hid.mk hf2
  skip
  have HWN := Hid.mk hwn
  have HSZ : Hid (w.heap.size + 1 < w1.heap.size) := Hid.mk HZ1.out.lt
  have HSW : Hid (w.heap.size ≤ w1.heap.size) := Hid.mk HB1.out.size
  clear a0 a1 a2 a3 a4 c1 HA1 HZ1 HB1 HCC hb2 hf1 hf2 hwn HY
  obtain ⟨xw, xn, xb, xl, xd, xa, xh, xe⟩ := X
  simp only at *
  obtain ⟨⟨z0, z1, z2, z3, z4⟩, ⟨y0, y1, y2, y3, y4⟩, ⟨p1, q1⟩, ⟨p2, q2⟩, ⟨p3, q3⟩, ⟨p4, q4⟩, hSX⟩ := HZ2.out.ready (.int .i64 xw) (.slice o1 n1 e1) (.int .i64 xn) (.int .i64 xb) (.int .i64 xl)
  have HB3 := Hid.mk (set5_below HB2.out (Nat.le_succ w.heap.size) (.int .i64 xw) (.slice o1 n1 e1) (.int .i64 xn) (.int .i64 xb) (.int .i64 xl))
  have HF1b := Hid.mk (HF1.out.set5 HSZ.out (Nat.le_refl _) (.int .i64 xw) (.slice o1 n1 e1) (.int .i64 xn) (.int .i64 xb) (.int .i64 xl))
  have HF2b := Hid.mk (HF2.out.set5 HSZ.out (Nat.le_refl _) (.int .i64 xw) (.slice o1 n1 e1) (.int .i64 xn) (.int .i64 xb) (.int .i64 xl))
  obtain ⟨⟨t0, t1, t2, t3, t4⟩, ⟨u0, u1, u2, u3, u4⟩, ⟨r1, s1⟩, ⟨r2, s2⟩, ⟨r3, s3⟩, ⟨r4, s4⟩, hSY⟩ := hSX.ready (.int .i64 xw) (.slice o1 n1 e1) (.int .i64 xn) (.int .i64 xb) (.int .i64 xl)
  have HSY := Hid.mk hSY
  unfold set5 at t0 t1 t2 t3 t4 u0 u1 u2 u3 u4 r1 s1 r2 s2 r3 s3 r4 s4
  clear hSX hSY
  go_wp2_with fail
  refine bodyPost_ret (get_res _ _ (w.heap.size + 1) _ _ _ _ rfl rfl rfl rfl HSY.out rfl) rfl ?_
  subst hXo
  exact ⟨o1, n1, e1, none, 0, 0, o2, n2, e2, rfl, HF1b.out.set5 HSZ.out HSW.out _ _ _ _ _, FB.nil _ _, HF2b.out.set5 HSZ.out HSW.out _ _ _ _ _, HWN.out, set5_below HB3.out (Nat.le_succ _) _ _ _ _ _⟩
set_option maxHeartbeats 8000000 in
set_option maxRecDepth 100000 in
theorem get_k1 (want : Int) (a : Option Addr) (n cap : Nat) (next block left : Int) (b : Option Addr) (m mc : Nat) (w : World) (hl : n ≤ maxLen) (hm : m ≤ maxLen) (hE : gtE n want next block left = 0) (y : Addr) (c0 : Nat) (hc0 : c0 < 256) (hb : b = some y) (hm1 : 1 ≤ m) (hm8 : m ≤ 8) (hy : w.cell? y = some (.int .u8 (c0 : Int))) (hk : c0 / 16 = 1) (X : GX) (hXo : X.whole = []) (HC : ∀ W, Below w.heap.size w W → Calls Try.prog 37 #[gtV want a n cap next block left, .slice b m mc] W fun e w' => ∃ o1 n1 e1 o2 n2 e2, e = .returned (.tuple #[gtV X.want o1 n1 e1 X.next X.block X.left, .slice o2 n2 e2, .int .i64 X.e]) ∧ FB W w' o1 n1 e1 X.dt ∧ FB W w' o2 n2 e2 X.ans ∧ Below W.heap.size W w') :
    Calls Try.prog 21 #[gtV want a n cap next block left, .slice b m mc] w fun e w' => Got X w w' e := by
  have HCK := Hid.mk (fun W => checkGetter_any a n cap want next block left W hl)
  rw [hE] at HCK
  obtain ⟨hA, hZ, hB⟩ := two5 w 44 (.int .i64 want) (.slice a n cap) (.int .i64 next) (.int .i64 block) (.int .i64 left) (.int .i64 0) (.slice none 0 0) (.int .i64 0) (.int .i64 0) (.int .i64 0)
  have HA := Hid.mk hA
  have HZ := Hid.mk hZ
  have HB := Hid.mk hB
  obtain ⟨a0, a1, a2, a3, a4⟩ := hA.cells
  unfold maxLen at hm
  subst hb
  have h0' : ((m : Int) == 0) = false := by simp; omega
  have h8' : ¬ ((8 : Int) < (m : Int)) := by omega
  have hc0' : (c0 : Int) ≤ 255 := by omega
  have hsh : (c0 : Int) / 16 = ((c0 / 16 : Nat) : Int) := by omega
  have hsh2 : (c0 : Int) / 2 ^ 4 = ((c0 / 16 : Nat) : Int) := by omega
  obtain ⟨kd, hkd⟩ : ∃ kd, kd = c0 / 16 := ⟨_, rfl⟩
  rw [← hkd] at hsh hsh2
  have hkd15 : (kd : Int) ≤ 15 := by omega
  have HY := Hid.mk hy
  have hm0 : 0 < m := by omega
  have hm0' : (0 : Int) < (m : Int) := by omega
  have hkv : kd = 1 := by rw [hkd, hk]
  subst hkv
  clear hkd hy hk
  have HCC := Hid.mk HC
  unfold gtV at HCC
  clear HC
  clear hA hZ hB hl
  unfold gtV at HCK ⊢
  go_enter Try.func21, Try.ntmps21
  go_wp2_with fail
  refine (HCK.out _).mono ?_
  rintro e w1 ⟨rfl, hb1⟩
  have HA1 := Hid.mk (HA.out.kept hb1)
  have HZ1 := Hid.mk (HZ.out.kept hb1)
  have HB1 := Hid.mk (bl2 HB.out hb1)
  clear a0 a1 a2 a3 a4 HA HZ HB HCK hb1
  have c1 := cell_kept HB1.out HY.out
  obtain ⟨a0, a1, a2, a3, a4⟩ := HA1.out.cells
  go_wp2_with fail
  refine (HCC.out _ HB1.out).mono ?_
  rintro e w2 ⟨o1, n1, e1, o2, n2, e2, rfl, hf1, hf2, hb2⟩
  have HZ2 := Hid.mk (HZ1.out.kept hb2)
  have HB2 := Hid.mk (bl2 HB1.out hb2)
  have HF1 := Hid.mk hf1
  have HF2 := Hid.mk hf2
  skip
  skip
  have HSZ : Hid (w.heap.size + 1 < w1.heap.size) := Hid.mk HZ1.out.lt
  have HSW : Hid (w.heap.size ≤ w1.heap.size) := Hid.mk HB1.out.size
  clear a0 a1 a2 a3 a4 c1 HA1 HZ1 HB1 HCC hb2 hf1 hf2 HY
  obtain ⟨xw, xn, xb, xl, xd, xa, xh, xe⟩ := X
  simp only at *
  obtain ⟨⟨z0, z1, z2, z3, z4⟩, ⟨y0, y1, y2, y3, y4⟩, ⟨p1, q1⟩, ⟨p2, q2⟩, ⟨p3, q3⟩, ⟨p4, q4⟩, hSX⟩ := HZ2.out.ready (.int .i64 xw) (.slice o1 n1 e1) (.int .i64 xn) (.int .i64 xb) (.int .i64 xl)
  have HB3 := Hid.mk (set5_below HB2.out (Nat.le_succ w.heap.size) (.int .i64 xw) (.slice o1 n1 e1) (.int .i64 xn) (.int .i64 xb) (.int .i64 xl))
  have HF1b := Hid.mk (HF1.out.set5 HSZ.out (Nat.le_refl _) (.int .i64 xw) (.slice o1 n1 e1) (.int .i64 xn) (.int .i64 xb) (.int .i64 xl))
  have HF2b := Hid.mk (HF2.out.set5 HSZ.out (Nat.le_refl _) (.int .i64 xw) (.slice o1 n1 e1) (.int .i64 xn) (.int .i64 xb) (.int .i64 xl))
  obtain ⟨⟨t0, t1, t2, t3, t4⟩, ⟨u0, u1, u2, u3, u4⟩, ⟨r1, s1⟩, ⟨r2, s2⟩, ⟨r3, s3⟩, ⟨r4, s4⟩, hSY⟩ := hSX.ready (.int .i64 xw) (.slice o1 n1 e1) (.int .i64 xn) (.int .i64 xb) (.int .i64 xl)
  have HSY := Hid.mk hSY
  unfold set5 at t0 t1 t2 t3 t4 u0 u1 u2 u3 u4 r1 s1 r2 s2 r3 s3 r4 s4
  clear hSX hSY
  go_wp2_with fail
  refine bodyPost_ret (get_res _ _ (w.heap.size + 1) _ _ _ _ rfl rfl rfl rfl HSY.out rfl) rfl ?_
  subst hXo
  exact ⟨o1, n1, e1, o2, n2, e2, none, 0, 0, rfl, HF1b.out.set5 HSZ.out HSW.out _ _ _ _ _, HF2b.out.set5 HSZ.out HSW.out _ _ _ _ _, FB.nil _ _, fun _ => rfl, set5_below HB3.out (Nat.le_succ _) _ _ _ _ _⟩
set_option maxHeartbeats 8000000 in
set_option maxRecDepth 100000 in
theorem get_k2 (want : Int) (a : Option Addr) (n cap : Nat) (next block left : Int) (b : Option Addr) (m mc : Nat) (w : World) (hl : n ≤ maxLen) (hm : m ≤ maxLen) (hE : gtE n want next block left = 0) (y : Addr) (c0 : Nat) (hc0 : c0 < 256) (hb : b = some y) (hm1 : 1 ≤ m) (hm8 : m ≤ 8) (hy : w.cell? y = some (.int .u8 (c0 : Int))) (hk : c0 / 16 = 2) (X : GX) (HC : ∀ W, Below w.heap.size w W → Calls Try.prog 38 #[gtV want a n cap next block left, .slice b m mc] W fun e w' => ∃ o1 n1 e1 o2 n2 e2 o3 n3 e3, e = .returned (.tuple #[gtV X.want o1 n1 e1 X.next X.block X.left, .slice o2 n2 e2, .slice o3 n3 e3, .int .i64 X.e]) ∧ FB W w' o1 n1 e1 X.dt ∧ FB W w' o2 n2 e2 X.ans ∧ FB W w' o3 n3 e3 X.whole ∧ (X.whole = [] → o3 = none) ∧ Below W.heap.size W w') :
    Calls Try.prog 21 #[gtV want a n cap next block left, .slice b m mc] w fun e w' => Got X w w' e := by
  have HCK := Hid.mk (fun W => checkGetter_any a n cap want next block left W hl)
  rw [hE] at HCK
  obtain ⟨hA, hZ, hB⟩ := two5 w 44 (.int .i64 want) (.slice a n cap) (.int .i64 next) (.int .i64 block) (.int .i64 left) (.int .i64 0) (.slice none 0 0) (.int .i64 0) (.int .i64 0) (.int .i64 0)
  have HA := Hid.mk hA
  have HZ := Hid.mk hZ
  have HB := Hid.mk hB
  obtain ⟨a0, a1, a2, a3, a4⟩ := hA.cells
  unfold maxLen at hm
  subst hb
  have h0' : ((m : Int) == 0) = false := by simp; omega
  have h8' : ¬ ((8 : Int) < (m : Int)) := by omega
  have hc0' : (c0 : Int) ≤ 255 := by omega
  have hsh : (c0 : Int) / 16 = ((c0 / 16 : Nat) : Int) := by omega
  have hsh2 : (c0 : Int) / 2 ^ 4 = ((c0 / 16 : Nat) : Int) := by omega
  obtain ⟨kd, hkd⟩ : ∃ kd, kd = c0 / 16 := ⟨_, rfl⟩
  rw [← hkd] at hsh hsh2
  have hkd15 : (kd : Int) ≤ 15 := by omega
  have HY := Hid.mk hy
  have hm0 : 0 < m := by omega
  have hm0' : (0 : Int) < (m : Int) := by omega
  have hkv : kd = 2 := by rw [hkd, hk]
  subst hkv
  clear hkd hy hk
  have HCC := Hid.mk HC
  unfold gtV at HCC
  clear HC
  clear hA hZ hB hl
  unfold gtV at HCK ⊢
  go_enter Try.func21, Try.ntmps21
  go_wp2_with fail
  refine (HCK.out _).mono ?_
  rintro e w1 ⟨rfl, hb1⟩
  have HA1 := Hid.mk (HA.out.kept hb1)
  have HZ1 := Hid.mk (HZ.out.kept hb1)
  have HB1 := Hid.mk (bl2 HB.out hb1)
  clear a0 a1 a2 a3 a4 HA HZ HB HCK hb1
  have c1 := cell_kept HB1.out HY.out
  obtain ⟨a0, a1, a2, a3, a4⟩ := HA1.out.cells
  go_wp2_with fail
  refine (HCC.out _ HB1.out).mono ?_
  rintro e w2 ⟨o1, n1, e1, o2, n2, e2, o3, n3, e3, rfl, hf1, hf2, hf3, hwn, hb2⟩
  have HZ2 := Hid.mk (HZ1.out.kept hb2)
  have HB2 := Hid.mk (bl2 HB1.out hb2)
  have HF1 := Hid.mk hf1
  have HF2 := Hid.mk hf2
  have HF3 := Hid.mk hf3
  have HWN := Hid.mk hwn
  have HSZ : Hid (w.heap.size + 1 < w1.heap.size) := Hid.mk HZ1.out.lt
  have HSW : Hid (w.heap.size ≤ w1.heap.size) := Hid.mk HB1.out.size
  clear a0 a1 a2 a3 a4 c1 HA1 HZ1 HB1 HCC hb2 hf1 hf2 hf3 hwn HY
  obtain ⟨xw, xn, xb, xl, xd, xa, xh, xe⟩ := X
  simp only at *
  obtain ⟨⟨z0, z1, z2, z3, z4⟩, ⟨y0, y1, y2, y3, y4⟩, ⟨p1, q1⟩, ⟨p2, q2⟩, ⟨p3, q3⟩, ⟨p4, q4⟩, hSX⟩ := HZ2.out.ready (.int .i64 xw) (.slice o1 n1 e1) (.int .i64 xn) (.int .i64 xb) (.int .i64 xl)
  have HSX := Hid.mk hSX
  clear hSX
  go_wp2_with fail
  refine bodyPost_ret (get_res _ _ (w.heap.size + 1) _ _ _ _ rfl rfl rfl rfl HSX.out rfl) rfl ?_
  exact ⟨o1, n1, e1, o2, n2, e2, o3, n3, e3, rfl, HF1.out.set5 HSZ.out HSW.out _ _ _ _ _, HF2.out.set5 HSZ.out HSW.out _ _ _ _ _, HF3.out.set5 HSZ.out HSW.out _ _ _ _ _, HWN.out, set5_below HB2.out (Nat.le_succ _) _ _ _ _ _⟩
end Bw
end Go.Proofs.Ytgjnfmbmndnihaa
