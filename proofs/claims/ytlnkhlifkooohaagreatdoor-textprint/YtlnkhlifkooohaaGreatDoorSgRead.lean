/- What signal.Read answers. -/
import Derived.Test.YtlnkhlifkooohaaGreatDoorSgLow
import Derived.Test.YtlnkhlifkooohaaGreatDoorSgRaw
import Derived.Test.YtlnkhlifkooohaaGreatDoorFilBits
import Derived.Test.YtlnkhlifkooohaaGreatDoorBase8
import Derived.RegionTactic
import Derived.BigRegion
namespace Go.Proofs.YtlnkhlifkooohaaGreatDoor
open Go.ChangeShapes Go.WideShapes Go.ChangeAt Go.RowKit Go.Sort
namespace Bw
open Sm
def rdC (nm : ByteArray) (num den : Int) : Obj := .cells #[.string nm, .int .i64 num, .int .i64 den] 44
def rdV (nm : ByteArray) (num den : Int) : Value := .agg #[.string nm, .int .i64 num, .int .i64 den]
def RdAt3 (w : World) (g : Nat) (nm : ByteArray) (num den : Int) : Prop := w.heap[g]? = some (.cells #[.string nm, .int .i64 num, .int .i64 den] 44 (0, 0))
theorem RdAt3.lt {w : World} {g : Nat} {nm : ByteArray} {num den : Int} (h : RdAt3 w g nm num den) : g < w.heap.size := by
  rcases Nat.lt_or_ge g w.heap.size with h' | h'
  · exact h'
  · unfold RdAt3 at h; rw [Array.getElem?_eq_none h'] at h; cases h
theorem RdAt3.kept {w w' : World} {g : Nat} {nm : ByteArray} {num den : Int} (h : RdAt3 w g nm num den) (hb : Below w.heap.size w w') : RdAt3 w' g nm num den := by
  unfold RdAt3; rw [hb.block g h.lt]; exact h
theorem RdAt3.cells {w : World} {g : Nat} {nm : ByteArray} {num den : Int} (h : RdAt3 w g nm num den) : (w.cell? ⟨g, 0, none⟩ = some (.string nm) ∧ w.cell? ⟨g, 1, none⟩ = some (.int .i64 num) ∧ w.cell? ⟨g, 2, none⟩ = some (.int .i64 den)) ∧ w.frozen? ⟨g, 0, none⟩ = false ∧ w.frozen? ⟨g, 1, none⟩ = false ∧ w.frozen? ⟨g, 2, none⟩ = false :=
  ⟨⟨cell_of_row _ _ 0 _ _ _ h, cell_of_row _ _ 1 _ _ _ h, cell_of_row _ _ 2 _ _ _ h⟩, frozen_of_row _ _ 0 _ _ h, frozen_of_row _ _ 1 _ _ h, frozen_of_row _ _ 2 _ _ h⟩
/-- a reading stored into its variable, and what is asked of the worlds between -/
theorem RdAt3.store {w : World} {g : Nat} {nm : ByteArray} {num den : Int} (h : RdAt3 w g nm num den) (nm' : ByteArray) (num' den' : Int) :
    ((w.setCell ⟨g, 0, none⟩ (.string nm')).cell? ⟨g, 1, none⟩ = some (.int .i64 num) ∧ (w.setCell ⟨g, 0, none⟩ (.string nm')).frozen? ⟨g, 1, none⟩ = false) ∧
    (((w.setCell ⟨g, 0, none⟩ (.string nm')).setCell ⟨g, 1, none⟩ (.int .i64 num')).cell? ⟨g, 2, none⟩ = some (.int .i64 den) ∧ ((w.setCell ⟨g, 0, none⟩ (.string nm')).setCell ⟨g, 1, none⟩ (.int .i64 num')).frozen? ⟨g, 2, none⟩ = false) ∧
    RdAt3 (((w.setCell ⟨g, 0, none⟩ (.string nm')).setCell ⟨g, 1, none⟩ (.int .i64 num')).setCell ⟨g, 2, none⟩ (.int .i64 den')) g nm' num' den' := by
  have h1 := heap_setCell_same w g 0 _ _ (.string nm') h
  have h2 := heap_setCell_same _ g 1 _ _ (.int .i64 num') h1
  have h3 := heap_setCell_same _ g 2 _ _ (.int .i64 den') h2
  exact ⟨⟨cell_of_row _ _ 1 _ _ _ h1, frozen_of_row _ _ 1 _ _ h1⟩, ⟨cell_of_row _ _ 2 _ _ _ h2, frozen_of_row _ _ 2 _ _ h2⟩, h3⟩
theorem setB3 {B : Nat} {a w : World} (h : Below B a w) {g : Nat} (hg : B ≤ g) (u v t : Value) : Below B a (((w.setCell ⟨g, 0, none⟩ u).setCell ⟨g, 1, none⟩ v).setCell ⟨g, 2, none⟩ t) :=
  ((h.setCell (p := ⟨g, 0, none⟩) hg u).setCell (p := ⟨g, 1, none⟩) hg v).setCell (p := ⟨g, 2, none⟩) hg t
theorem read_i : (Tryz.prog.info? 44).map (·.size) = some 3 := by kernel_rfl
theorem sread_res (tmps : Array Value) (w : World) (g : Nat) (nm : ByteArray) (num den : Int) (x y : Value) (hx : tmps.getD 4 undef = x) (hp : tmps.getD 5 undef = .pointer (some ⟨g, 0, none⟩)) (hy : tmps.getD 6 undef = y) (h : RdAt3 w g nm num den) :
    (results Tryz.f86 tmps).run Tryz.prog w = .ok (.tuple #[x, rdV nm num den, y]) w := by
  have hl := run_loadVar_row (P := Tryz.prog) w g 44 44 #[.string nm, .int .i64 num, .int .i64 den] (0, 0) _ h Tryz.underlying44 rfl (by rw [read_i]; rfl)
  have hp' : tmps[5]?.getD undef = .pointer (some ⟨g, 0, none⟩) := by simpa using hp
  have hx' : tmps[4]?.getD undef = x := by simpa using hx
  have hy' : tmps[6]?.getD undef = y := by simpa using hy
  unfold rdV
  simp [results, hp', hx', hy', asAddr, hl]
/-- the two variables ahead -/
def rW0 (w : World) (s : Sig) : World := (w.alloc (sgC s)).alloc (rdC ⟨#[]⟩ 0 0)
theorem rW0_B (w : World) (s : Sig) : Below w.heap.size w (rW0 w s) := ((Below.refl _ _).alloc (Nat.le_refl _) _).alloc (by simp) _
theorem rW0_s (w : World) (s : Sig) : SgAt (rW0 w s) w.heap.size s := (SgAt.box w s).kept ((Below.refl _ _).alloc (Nat.le_refl _) _)
theorem rW0_r (w : World) (s : Sig) : RdAt3 (rW0 w s) (w.heap.size + 1) ⟨#[]⟩ 0 0 := by
  have := heap_alloc_new (w.alloc (sgC s)) (rdC ⟨#[]⟩ 0 0)
  rw [show (w.alloc (sgC s)).heap.size = w.heap.size + 1 by simp] at this
  exact this
set_option maxHeartbeats 4000000 in
set_option maxRecDepth 100000 in
theorem sread_bad (s : Sig) (a : Option Addr) (len cap : Nat) (w : World) (h : wfS s) (hlen : len ≤ maxLen) (hE : chkS s len ≠ 0) :
    Calls Tryz.prog 86 #[sgV s, .slice a len cap] w fun e w' => e = .returned (.tuple #[.int .i64 0, rdV ⟨#[]⟩ 0 0, .int .i64 (chkS s len)]) ∧ Below w.heap.size w w' := by
  have HB := Hid.mk (rW0_B w s)
  have HZ := Hid.mk (rW0_r w s)
  have hC := fun W => scheck_any s len W h
  have hne : (chkS s len != 0) = true := by simpa using hE
  have hl' : (len : Int) ≤ 9223372036854775807 := by unfold maxLen at hlen; omega
  clear hE hlen
  generalize chkS s len = E at *
  obtain ⟨nm, st, sz, bk, sg, mu, di, ad, ky⟩ := s
  unfold rW0 sgC rdC at HB HZ
  unfold sgV at hC ⊢
  simp only at HB HZ hC ⊢
  clear h
  go_enter Tryz.func86, Tryz.ntmps86
  go_wp2_with fail
  refine (hC _).mono ?_
  rintro e w1 ⟨rfl, hb1⟩
  have HB1 := Hid.mk (bl2 HB.out hb1)
  have HZ1 := Hid.mk (HZ.out.kept hb1)
  obtain ⟨⟨c0, c1, c2⟩, f0, f1, f2⟩ := HZ1.out.cells
  obtain ⟨⟨d1, g1⟩, ⟨d2, g2⟩, hF⟩ := HZ1.out.store ⟨#[]⟩ 0 0
  have HF := Hid.mk hF
  clear hb1 hF
  go_wp2_with fail
  refine bodyPost_ret (sread_res _ _ (w.heap.size + 1) _ _ _ _ _ rfl rfl rfl HF.out) rfl ?_
  exact ⟨rfl, setB3 HB1.out (Nat.le_succ _) _ _ _⟩
theorem shr_and_all : ((List.range 256).all fun c => (List.range 8).all fun k => bits .and .u8 ((c : Int) / 2 ^ k) 1 == ((c / 2 ^ k % 2 : Nat) : Int)) = true := by kernel_rfl
theorem shr_and {c k : Nat} (hc : c < 256) (hk : k < 8) : bits .and .u8 ((c : Int) / 2 ^ k) 1 = ((c / 2 ^ k % 2 : Nat) : Int) :=
  eq_of_beq (List.all_eq_true.1 (List.all_eq_true.1 shr_and_all c (List.mem_range.2 hc)) k (List.mem_range.2 hk))
theorem or_sum {u b k : Nat} (hu : u < 2 ^ k) (hb : b < 2) (hk : k < 40) : bits .or .i64 (u : Int) ((b * 2 ^ k : Nat) : Int) = ((u + b * 2 ^ k : Nat) : Int) := by
  have h1 : 2 ^ k ≤ 2 ^ 39 := Nat.pow_le_pow_right (by omega) (by omega)
  have h2 : b * 2 ^ k ≤ 1 * 2 ^ k := Nat.mul_le_mul_right _ (by omega)
  rw [or_i64 u (b * 2 ^ k) (by omega) (by omega), Nat.or_comm, Nat.mul_comm b, ← Nat.two_pow_add_eq_or_of_lt hu, Nat.add_comm]
/-- the raw number that the bits tell -/
def uN (bk : Bool) (st sz : Nat) (l : List UInt8) : Nat := sumK (fun i => bitN l (plN bk st sz i)) sz
theorem uN_lt (bk : Bool) (st sz : Nat) (l : List UInt8) : uN bk st sz l < 2 ^ sz := sumK_lt (fun _ _ => bitN_lt _ _)
def rawR (s : Sig) (st sz : Nat) (l : List UInt8) : Int := rawS s.sg sz (uN s.bk st sz l)
theorem rawS_gt {sg : Bool} {n : Nat} {u : Int} (h1 : 1 ≤ n) (hu : u < 2 ^ n) : (highS sg n < u → rawS sg n u = u - 2 ^ n) ∧ (u ≤ highS sg n → rawS sg n u = u) := by
  unfold highS rawS
  have e := pow_half h1
  cases sg with
  | false => simp only [Bool.false_eq_true, if_false, false_and]; exact ⟨fun h => by omega, fun _ => trivial⟩
  | true =>
    simp only [if_true, true_and]
    exact ⟨fun h => if_pos (by omega), fun h => if_neg (by omega)⟩
theorem pow_le40 {n : Nat} (h : n ≤ 40) : (2 : Int) ^ n ≤ 1099511627776 := by
  have h1 : 2 ^ n ≤ 2 ^ 40 := Nat.pow_le_pow_right (by omega) h
  have e : ((2 ^ n : Nat) : Int) = 2 ^ n := by simp
  have e2 : (2 : Nat) ^ 40 = 1099511627776 := rfl
  rw [← e]
  omega
end Bw
end Go.Proofs.YtlnkhlifkooohaaGreatDoor
