/- Words as cells, and the steps of sums; none walks a function. -/
import Derived.Test.YtopoogdoepdedaaDoorWordsTrim
namespace Go.Proofs.YtopoogdoepdedaaDoor
open Go.ChangeShapes Go.WideShapes Go.ChangeAt Go.RowKit
namespace Ww
open Wm

theorem info_u32 : (Tryd.prog.info? 99).map (fun i => (i.zero, i.size, i.bytes)) = some (some (.int .u32 0), 1, 4) := by kernel_rfl
def cellsW (l : List Nat) : List Value := l.map fun x : Nat => Value.int .u32 (x : Int)
theorem cellsW_rep (n : Nat) : cellsW ([] ++ List.replicate (n - 0) 0) = List.replicate n (Value.int .u32 0) := by simp [cellsW]
theorem cellsW_at (zs : List Nat) (n k : Nat) (h : zs.length = k) (hk : k < n) : (cellsW (zs ++ List.replicate (n - k) 0))[k]? = some (.int .u32 0) := by
  unfold cellsW
  rw [List.getElem?_map, List.getElem?_append_right (by omega), h, Nat.sub_self, List.getElem?_replicate, if_pos (by omega)]
  rfl
theorem cellsW_set (zs : List Nat) (n k v : Nat) (h : zs.length = k) (hk : k < n) : (cellsW (zs ++ List.replicate (n - k) 0)).set k (.int .u32 (v : Int)) = cellsW ((zs ++ [v]) ++ List.replicate (n - (k + 1)) 0) := by
  unfold cellsW
  have e : n - k = (n - (k + 1)) + 1 := by omega
  rw [e, List.replicate_succ, List.map_append, List.map_cons, List.set_append_right _ _ (by simp; omega)]
  simp [h]
theorem okW_one {x : Nat} (h : x < 4294967296) : okW [x] := by intro y hy; simp at hy; omega
theorem isW_own {w : World} {base g n : Nat} {xs : List Nat} (h : w.ownsRow base 99 1 (.slice (some ⟨g, 0, none⟩) n n) n (cellsW xs)) (hn : xs.length = n) (hm : n ≤ maxLen) (hok : okW xs) :
    IsW w (.slice (some ⟨g, 0, none⟩) n n) xs := by
  subst hn
  refine ⟨_, _, rfl, Nat.le_refl _, hm, (fun h => by cases h), fun x hx i hi => ?_, hok⟩
  cases hx
  rw [Addr.add_lit, Nat.zero_add, h.cellAt i (by omega)]
  simp [cellsW, hi]
theorem take_more (ys : List Nat) (k : Nat) (h : ys.length ≤ k) : valW (ys.take (k + 1)) = valW (ys.take k) := by
  rw [List.take_of_length_le (by omega), List.take_of_length_le (by omega)]
theorem pow32 (k : Nat) : 2 ^ (32 * (k + 1)) = 2 ^ (32 * k) * 4294967296 := by rw [Nat.mul_add, Nat.pow_add]
theorem carry_step (V P t : Nat) : V + P * (t % 4294967296) + P * 4294967296 * (t / 4294967296) = V + P * t := by
  have h := Nat.mod_add_div t 4294967296
  rw [Nat.mul_assoc, Nat.add_assoc, ← Nat.mul_add, h]
theorem add_step {zs xs ys : List Nat} {k cc xk yk : Nat} (hv : valW zs + 2 ^ (32 * k) * cc = valW (xs.take k) + valW (ys.take k)) (hz : zs.length = k) (hx : xk = xs.getD k 0) (hy : yk = ys.getD k 0) (h1 : k < xs.length) (h2 : k < ys.length) :
    valW (zs ++ [(cc + xk + yk) % 4294967296]) + 2 ^ (32 * (k + 1)) * ((cc + xk + yk) / 4294967296) = valW (xs.take (k + 1)) + valW (ys.take (k + 1)) := by
  rw [valW_snoc, hz, pow32, carry_step, take_snocN xs k h1, take_snocN ys k h2, valW_snoc, valW_snoc, List.length_take, List.length_take, Nat.min_eq_left (by omega), Nat.min_eq_left (by omega), ← hx, ← hy, Nat.mul_add, Nat.mul_add]
  omega
theorem add_step1 {zs xs ys : List Nat} {k cc xk : Nat} (hv : valW zs + 2 ^ (32 * k) * cc = valW (xs.take k) + valW (ys.take k)) (hz : zs.length = k) (hx : xk = xs.getD k 0) (h1 : k < xs.length) (h2 : ys.length ≤ k) :
    valW (zs ++ [(cc + xk) % 4294967296]) + 2 ^ (32 * (k + 1)) * ((cc + xk) / 4294967296) = valW (xs.take (k + 1)) + valW (ys.take (k + 1)) := by
  rw [valW_snoc, hz, pow32, carry_step, take_snocN xs k h1, take_more ys k h2, valW_snoc, List.length_take, Nat.min_eq_left (by omega), ← hx, Nat.mul_add]
  omega

end Ww
end Go.Proofs.YtopoogdoepdedaaDoor
