/- What GuardRow answers: true. -/
import Derived.Test.YtopoogdoepdedaaDoorGrowOk
import Derived.Test.YtopoogdoepdedaaDoorRulesRow
import Derived.Test.YtopoogdoepdedaaDoorIsRow
namespace Go.Proofs.YtopoogdoepdedaaDoor
open Go.ChangeShapes Go.WideShapes Go.ChangeAt Go.RowKit
namespace guardRow
open Bw
theorem walk (key : Int) (a : Option Addr) (len cap : Nat) (zs : List Int) (n bit : Int) (w : World) (_ : (Lit.int .i64 key).wf = true) (hD : IsRow .u8 w a len cap zs) (_ : (Lit.int .i64 n).wf = true) (_ : (Lit.int .i64 bit).wf = true) (hL : laidMet Tryd.prog Rows.guardRowRow.laid w) :
    Calls Tryd.prog 4 #[.int .i64 key, .slice a len cap, .int .i64 n, .int .i64 bit] w fun e w' => e = .returned (.bool true) ∧ Below w.heap.size w w' := by
  have hR := rules_of hL (by simp [Rows.guardRowRow])
  obtain ⟨l, hl⟩ := isBytes_of_row hD
  have hmx : len ≤ maxLen := Nat.le_trans hl.2.1 hl.2.2.1
  by_cases hok : (0 ≤ key ∧ key ≤ 65535) ∧ 2 ≤ len ∧ len ≤ 64
  · obtain ⟨⟨k0, k1⟩, h2, h64⟩ := hok
    obtain ⟨k, rfl⟩ : ∃ k : Nat, key = (k : Int) := ⟨key.toNat, by omega⟩
    by_cases h0 : n < 0
    · exact grow_ok_neg k a len cap l n bit w hR hl (by omega) h2 h64 h0
    · by_cases h1 : 40 < n
      · exact grow_ok_big k a len cap l n bit w hR hl (by omega) h2 h64 h1
      · exact grow_ok_in k a len cap l n bit w hR hl (by omega) h2 h64 ⟨by omega, by omega⟩
  · have hE : ∀ c : Nat, putE key ((c % 15 : Nat) : Int) len ≠ 0 := fun c h => by
      obtain ⟨h1, -, h2⟩ := putE_ok h
      exact hok ⟨h1, h2⟩
    by_cases h0 : n < 0
    · exact grow_bad_neg key a len cap n bit w hR hmx hE h0
    · by_cases h1 : 40 < n
      · exact grow_bad_big key a len cap n bit w hR hmx hE h1
      · exact grow_bad_in key a len cap n bit w hR hmx hE ⟨by omega, by omega⟩
end guardRow
end Go.Proofs.YtopoogdoepdedaaDoor
