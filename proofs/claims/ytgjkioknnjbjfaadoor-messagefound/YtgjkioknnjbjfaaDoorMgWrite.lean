/- What message.Write answers. -/
import Derived.Test.YtgjkioknnjbjfaaDoorMgSix
namespace Go.Proofs.YtgjkioknnjbjfaaDoor
open Go.ChangeShapes Go.WideShapes Go.ChangeAt Go.RowKit
namespace Bw
open Sm
/-- have two one name? -/
def dupE (l : List Rd) : Int := firstE (fun i => firstE (fun j => if (rdAt l j).nm = (rdAt l i).nm then 9 else 0) i) l.length
theorem dupE_zero {l : List Rd} : dupE l = 0 ↔ NoTwo l := by
  constructor
  · intro h i j hij hj e
    have h1 := firstE_zero (firstE_zero h j hj) i hij
    simp only [e, if_true] at h1
    omega
  · intro h
    refine firstE_all (fun i hi => firstE_all (fun j hj => ?_))
    simp only [if_neg (h j i hj hi)]
/-- the error of Write -/
def writeE (m : Msg) (l : List Rd) : Int :=
  if chkM m ≠ 0 then chkM m else if dupE l ≠ 0 then 9 else if (fillE (putW l) m).1 ≠ 0 then (fillE (putW l) m).1 else if (usedL (putW l) m).length < l.length then 8 else 0
def zF : Value := frameV 0 false false false 0 none 0 0
def WriteP (E : Int) (id : Int) (lo : Bool) (n8 : Nat) (d : List UInt8) (w : World) (e : Ending) (w' : World) : Prop :=
  Below w.heap.size w w' ∧ ((E ≠ 0 ∧ e = .returned (.tuple #[zF, .int .i64 E])) ∨ (E = 0 ∧ ∃ a c, e = .returned (.tuple #[frameV id lo false false 0 a n8 c, .int .i64 0]) ∧ IsBytes w' a n8 c d))
theorem mw_res (tmps : Array Value) (w : World) (g : Nat) (c0 c1 c2 c3 c4 c5 y : Value) (hp : tmps.getD 4 undef = .pointer (some ⟨g, 0, none⟩)) (hy : tmps.getD 5 undef = y) (h : Six w g c0 c1 c2 c3 c4 c5) :
    (results Tryd.f16 tmps).run Tryd.prog w = .ok (.tuple #[.agg #[c0, c1, c2, c3, c4, c5], y]) w := by
  have hl := run_loadVar_row (P := Tryd.prog) w g 25 25 #[c0, c1, c2, c3, c4, c5] (0, 0) _ h Tryd.underlying25 rfl (by rw [fr_i]; rfl)
  have hp' : tmps[4]?.getD undef = .pointer (some ⟨g, 0, none⟩) := by simpa using hp
  have hy' : tmps[5]?.getD undef = y := by simpa using hy
  simp [results, hp', hy', asAddr, hl]
theorem enter_putW : ∀ args w, (callFunc 39 args).run Tryd.prog w = .ok (.enter 39 args) w := enters_of Tryd.func39 (by kernel_rfl) rfl
/-- bytes whose cells are numbers stand while a frame's variable is written -/
theorem bytes_six {w : World} {g : Nat} {i0 i4 : Int} {b1 b2 b3 : Bool} {sa : Option Addr} {sn sc : Nat} (h : Six w g (.int .i64 i0) (.bool b1) (.bool b2) (.bool b3) (.int .i64 i4) (.slice sa sn sc)) {a : Option Addr} {len cap : Nat} {l : List UInt8} (hB : IsBytes w a len cap l) (d0 d1 d2 d3 d4 d5 : Value) :
    IsBytes ((((((w.setCell ⟨g, 0, none⟩ d0).setCell ⟨g, 1, none⟩ d1).setCell ⟨g, 2, none⟩ d2).setCell ⟨g, 3, none⟩ d3).setCell ⟨g, 4, none⟩ d4).setCell ⟨g, 5, none⟩ d5) a len cap l := by
  refine ⟨hB.1, hB.2.1, hB.2.2.1, hB.2.2.2.1, fun x hx i hi => ?_⟩
  have h1 := hB.2.2.2.2 x hx i hi
  have hb : (x.add i).block = x.block := by unfold Addr.add; split <;> rfl
  have hn : (x.add i).block ≠ g := by
    intro e
    have h4 := h1
    unfold World.cell? at h4
    unfold Six at h
    rw [e, h] at h4
    simp only at h4
    generalize (x.add i).off = o at h4
    rcases o with _ | _ | _ | _ | _ | _ | o <;> simp at h4
  unfold World.cell? at h1 ⊢
  rw [Below.heap_setCell _ _ _ _ hn, Below.heap_setCell _ _ _ _ hn, Below.heap_setCell _ _ _ _ hn, Below.heap_setCell _ _ _ _ hn, Below.heap_setCell _ _ _ _ hn, Below.heap_setCell _ _ _ _ hn]
  exact h1
set_option maxHeartbeats 8000000 in
set_option maxRecDepth 100000 in
theorem mwrite_bad (v : MsV) (a : Option Addr) (n c : Nat) (l : List Rd) (n8 : Nat) (d : List UInt8) (w : World) (hM : MsIn w v) (hS : SizesAt w) (hE : chkM v.m ≠ 0) :
    Calls Tryd.prog 16 #[msV v, .slice a n c] w (WriteP (writeE v.m l) v.m.id v.m.lo n8 d w) := by
  have HR : Hid (writeE v.m l = chkM v.m) := Hid.mk (by unfold writeE; rw [if_pos hE])
  have HB0 := Hid.mk (six_B0 w v)
  have HS0 := Hid.mk (six_S0 w v)
  have HC := Hid.mk (mcheck_any v _ (hM.kept HB0.out) (hS.kept HB0.out))
  generalize writeE v.m l = WE at *
  generalize chkM v.m = E at *
  obtain ⟨⟨mid, mlo, mnm, size, mch, sigs⟩, ma, mn, mcap⟩ := v
  unfold msC at HB0 HS0 HC
  unfold msV at HC ⊢
  simp only at HB0 HS0 HC ⊢
  have hne : (E != 0) = true := by simpa using hE
  have HE := Hid.mk hE
  clear hM hS hE
  go_enter Tryd.func16, Tryd.ntmps16
  go_wp2_with fail
  refine HC.out.mono ?_
  rintro e w1 ⟨rfl, hb1⟩
  have HB1 := Hid.mk (bl2 HB0.out hb1)
  have HS1 := Hid.mk (HS0.out.kept hb1)
  clear hb1
  obtain ⟨⟨z0, z1, z2, z3, z4, z5⟩, y0, y1, y2, y3, y4, y5⟩ := HS1.out.cells
  obtain ⟨⟨p1, q1⟩, ⟨p2, q2⟩, ⟨p3, q3⟩, ⟨p4, q4⟩, ⟨p5, q5⟩, hSX⟩ := HS1.out.store (.int .i64 0) (.bool false) (.bool false) (.bool false) (.int .i64 0) (.slice none 0 0)
  have HSX := Hid.mk hSX
  clear hSX
  go_wp2_with fail
  refine bodyPost_ret (mw_res _ _ (w.heap.size + 1) _ _ _ _ _ _ _ rfl rfl HSX.out) rfl ?_
  refine ⟨six_B HB1.out (Nat.le_succ _) _ _ _ _ _ _, .inl ?_⟩
  exact ⟨by rw [HR.out]; exact HE.out, by rw [HR.out]; rfl⟩
end Bw
end Go.Proofs.YtgjkioknnjbjfaaDoor
