/- Places of bits as rows of numbers. -/
import Derived.Test.YtlnkhlifkooohaaGreatDoorSgSpan
namespace Go.Proofs.YtlnkhlifkooohaaGreatDoor
open Go.ChangeShapes Go.WideShapes Go.ChangeAt Go.RowKit Go.Sort
namespace Bw
open Sm
theorem owns_baseP {w : World} {base base' : Nat} {e : TypeId} {size : Nat} {v : Value} {n : Nat} {xs : List Value} (h : w.ownsRow base e size v n xs) (hb : base' ≤ base) : w.ownsRow base' e size v n xs := by
  obtain ⟨h1, h2⟩ := h
  refine ⟨h1, ?_⟩
  rcases h2 with h2 | ⟨g, cap, cur, hv, hg, r⟩
  · exact Or.inl h2
  · exact Or.inr ⟨g, cap, cur, hv, Nat.le_trans hb hg, r⟩
theorem info_intP : (Tryz.prog.info? 3).map (fun i => (i.zero, i.size, i.bytes)) = some (some (.int .i64 0), 1, 8) := by kernel_rfl
/-- numbers as cells -/
def pnC (l : List Int) : List Value := l.map fun n => .int .i64 n
/-- the places of a signal's bits -/
def plsL (bk : Bool) (st sz k : Nat) : List Int := (List.range k).map fun i => (plN bk st sz i : Int)
def plsK (bk : Bool) (st sz k : Nat) : List Int := plsL bk st sz k ++ List.replicate (sz - k) 0
theorem plsL_length (bk : Bool) (st sz k : Nat) : (plsL bk st sz k).length = k := by simp [plsL]
theorem plsL_succ (bk : Bool) (st sz k : Nat) : plsL bk st sz (k + 1) = plsL bk st sz k ++ [(plN bk st sz k : Int)] := by simp [plsL, List.range_succ]
theorem plsK_start (bk : Bool) (st sz : Nat) : pnC (plsK bk st sz 0) = List.replicate sz (Value.int .i64 0) := by simp [pnC, plsK, plsL]
theorem plsK_end (bk : Bool) (st sz : Nat) : plsK bk st sz sz = plsL bk st sz sz := by simp [plsK]
theorem plsK_at (bk : Bool) (st sz k : Nat) (hk : k < sz) : (pnC (plsK bk st sz k))[k]? = some (.int .i64 0) := by
  unfold pnC plsK
  rw [List.getElem?_map, List.getElem?_append_right (by rw [plsL_length]; omega), plsL_length, Nat.sub_self, List.getElem?_replicate, if_pos (by omega)]
  rfl
theorem plsK_set (bk : Bool) (st sz k : Nat) (hk : k < sz) : (pnC (plsK bk st sz k)).set k (.int .i64 (plN bk st sz k : Int)) = pnC (plsK bk st sz (k + 1)) := by
  unfold pnC plsK
  have e : sz - k = (sz - (k + 1)) + 1 := by omega
  rw [plsL_succ, e, List.replicate_succ, List.map_append, List.map_cons, List.set_append_right _ _ (by simp [plsL_length])]
  simp [plsL_length]
end Bw
end Go.Proofs.YtlnkhlifkooohaaGreatDoor
