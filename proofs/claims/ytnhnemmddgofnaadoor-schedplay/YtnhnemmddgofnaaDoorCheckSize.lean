/- What check.Size answers, errors too, where the table of kinds lies as its initialiser lays it. -/
import Derived.Test.YtnhnemmddgofnaaDoorC7
namespace Go.Proofs.YtnhnemmddgofnaaDoor
open Go.ChangeShapes Go.WideShapes Go.ChangeAt Go.RowKit
namespace Bw
open Bm Cm

set_option maxHeartbeats 2000000 in
theorem size_who (k : Int) (w : World) (hk : k < 0 ∨ 4 < k) :
    Calls Tryd.prog 51 #[.int .i64 k] w fun e w' => e = .returned (.tuple #[.int .i64 0, .int .i64 8]) ∧ w' = w := by
  have HK := Hid.mk hk
  clear hk
  go_enter Tryd.func51, Tryd.ntmps51
  go_wp2_with fail
  refine (isKind_no k w HK.out).mono ?_
  rintro e w2 ⟨rfl, hw2⟩
  subst hw2
  go_wp2_with fail
  go_ret2
  exact ⟨rfl, rfl⟩
set_option maxHeartbeats 2000000 in
theorem size_ok (k : Nat) (w : World) (hR : RulesAt w) (hk : k ≤ 4) :
    Calls Tryd.prog 51 #[.int .i64 k] w fun e w' => e = .returned (.tuple #[.int .i64 (kS k), .int .i64 0]) ∧ w' = w := by
  obtain ⟨c0, c1, c2, c3⟩ := hR k hk
  have hk' : (k : Int) < 5 := by omega
  clear hR
  go_enter Tryd.func51, Tryd.ntmps51
  go_wp2_with fail
  refine (isKind_yes k w hk).mono ?_
  rintro e w2 ⟨rfl, hw2⟩
  subst hw2
  go_wp2_with fail
  go_ret2
  exact ⟨rfl, rfl⟩

end Bw
end Go.Proofs.YtnhnemmddgofnaaDoor
