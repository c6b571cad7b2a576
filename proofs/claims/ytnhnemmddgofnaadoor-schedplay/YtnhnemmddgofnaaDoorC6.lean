/- What the reader's methods readName and readForm do. -/
import Derived.Test.YtnhnemmddgofnaaDoorReadMath
import Derived.Test.YtnhnemmddgofnaaDoorC5
import Derived.Deep.RegionWith
import Derived.BigQuiet
import Derived.Lib.QuietBelow
import Derived.Test.YtnhnemmddgofnaaDoorC3
namespace Go.Proofs.YtnhnemmddgofnaaDoor
open Go.ChangeShapes Go.WideShapes Go.ChangeAt Go.RowKit
namespace Bw
open Bm Cm Go.Sort

/-- what a reader knows of the frame -/
structure Fd where
  id : Int
  lo : Bool
  fa : Bool
  re : Bool
  sz : Int
  d : Value
theorem failP_7 (b : List UInt8) (S : RS) (n : Nat) (h : b.length < S.u + n) : (failP S 7).fl ≠ 0 ∧ nextP b S n = ([], failP S 7) := by
  unfold failP nextP
  by_cases hf : S.fl = 0
  · rw [if_pos hf, if_pos hf, if_pos h]
    exact ⟨by simp, rfl⟩
  · rw [if_neg hf, if_neg hf]
    exact ⟨hf, rfl⟩
end Bw
end Go.Proofs.YtnhnemmddgofnaaDoor
namespace Go.Proofs.YtnhnemmddgofnaaDoor
open Go.ChangeShapes Go.WideShapes Go.ChangeAt Go.RowKit
namespace Bw
open Bm Cm Go.Sort

theorem takeG_okP (b : List UInt8) (m : Nat) (h : (takeG b m 0 []).2.2 = 0) : (takeG b m 0 []).1.length = m := takeG_len b m h
theorem numV_row {l : List UInt8} (h : rowB l = true) (hl : l.length ≤ 62) : numE l = 0 ∧ numV l = val l := by
  have h0 : numE l = 0 := by
    unfold numE
    rw [checkE_row h (by omega), if_pos rfl, if_neg (by omega)]
  refine ⟨h0, ?_⟩
  unfold numV
  rw [if_pos h0]
end Bw
end Go.Proofs.YtnhnemmddgofnaaDoor
namespace Go.Proofs.YtnhnemmddgofnaaDoor
open Go.ChangeShapes Go.WideShapes Go.ChangeAt Go.RowKit
namespace Bw
open Bm Cm Go.Sort

theorem str_eq {A B : ByteArray} {x y : List UInt8} (hA : A.data.toList = x) (hB : B.data.toList = y) : (A.toList == B.toList) = decide (x = y) := by
  rw [ByteArray.toList_eq, ByteArray.toList_eq, hA, hB, Bool.eq_iff_iff, beq_iff_eq, decide_eq_true_iff]
theorem str_ne {A B : ByteArray} {x y : List UInt8} (hA : A.data.toList = x) (hB : B.data.toList = y) : (A.toList != B.toList) = !decide (x = y) := by
  rw [bne, str_eq hA hB]
theorem Tch.drew {gs : List Nat} {w a : World} (h : Tch gs w a) : Tch gs w a.drew := h.trans ⟨rfl, rfl, rfl, Nat.le_refl _, fun _ _ _ => rfl⟩

end Bw
end Go.Proofs.YtnhnemmddgofnaaDoor
namespace Go.Proofs.YtnhnemmddgofnaaDoor
open Go.ChangeShapes Go.WideShapes Go.ChangeAt Go.RowKit
namespace Bw
open Bm Cm Go.Sort

theorem is_one {T : ByteArray} {t : List UInt8} (hT : T.data.toList = t) : (T.toList == [49]) = decide (t = [49]) := by
  rw [ByteArray.toList_eq, hT, Bool.eq_iff_iff, beq_iff_eq, decide_eq_true_iff]
theorem is_yes {T : ByteArray} {t : List UInt8} (hT : T.data.toList = t) (h : t = [49]) : (T.toList == [49]) = true ∧ (T.toList != [49]) = false ∧ T.toList = [49] := by
  have h1 : (T.toList == [49]) = true := by rw [is_one hT]; simp [h]
  exact ⟨h1, by rw [bne, h1]; rfl, by simpa using h1⟩
theorem is_no {T : ByteArray} {t : List UInt8} (hT : T.data.toList = t) (h : ¬ t = [49]) : (T.toList == [49]) = false ∧ (T.toList != [49]) = true ∧ ¬ T.toList = [49] := by
  have h1 : (T.toList == [49]) = false := by rw [is_one hT]; simp [h]
  exact ⟨h1, by rw [bne, h1]; rfl, by simpa using h1⟩
theorem or_shift (n m : Nat) (hn : n < 2 ^ 11) (hm : m < 2 ^ 18) : bits .or .i64 (IntKind.i64.wrap ((n : Int) * 262144)) (m : Int) = ((n * 262144 + m : Nat) : Int) := by
  have e : IntKind.i64.wrap ((n : Int) * 262144) = (n : Int) * 262144 := by rw [IntKind.wrap_i64]; omega
  rw [e, bits_join .i64 63 (by decide) (fun n h0 h1 => by rw [IntKind.wrap_i64]; omega) 18 _ _ (by omega) (by omega) (by omega) (by omega) (by omega) (by omega)]
  omega

end Bw
end Go.Proofs.YtnhnemmddgofnaaDoor
