/- The closed fact on parts: eight bytes go in two parts, and come. -/
import Derived.Test.YtgjnfmbmndnihaaPtSend
import Derived.Test.YtgjnfmbmndnihaaPtLawA
namespace Go.Proofs.Ytgjnfmbmndnihaa
open Go.ChangeShapes Go.WideShapes Go.ChangeAt Go.RowKit
namespace Bw
open Bm
def l8 : List UInt8 := [1, 2, 3, 4, 5, 6, 7, 8]
theorem l8_cells : (cellsOf l8).toArray = #[.int .u8 1, .int .u8 2, .int .u8 3, .int .u8 4, .int .u8 5, .int .u8 6, .int .u8 7, .int .u8 8] := by rfl
theorem l8_at (W : World) : IsBytes (W.alloc (.cells #[.int .u8 1, .int .u8 2, .int .u8 3, .int .u8 4, .int .u8 5, .int .u8 6, .int .u8 7, .int .u8 8] 5)) (some ⟨W.heap.size, 0, none⟩) 8 8 l8 := isBytes_made W l8 (by decide)
theorem l3_at (W : World) : IsBytes (W.alloc (.cells #[.int .u8 33, .int .u8 7, .int .u8 8] 5)) (some ⟨W.heap.size, 0, none⟩) 3 3 [33, 7, 8] := isBytes_made W [33, 7, 8] (by decide)
theorem l8_parts : partsL l8 = [[16, 8, 1, 2, 3, 4, 5, 6], [33, 7, 8]] := by decide +kernel
set_option maxHeartbeats 8000000 in
set_option maxRecDepth 100000 in
theorem parted_any (w : World) : Calls Try.prog 12 #[] w fun e w' => e = .returned (.bool true) ∧ Below w.heap.size w w' := by
  have HSP : Hid (∀ W : World, Calls Try.prog 9 #[.slice (some ⟨W.heap.size, 0, none⟩) 8 8] (W.alloc (.cells #[.int .u8 1, .int .u8 2, .int .u8 3, .int .u8 4, .int .u8 5, .int .u8 6, .int .u8 7, .int .u8 8] 5)) fun e w' => ∃ g c y d, e = .returned (.tuple #[.slice (some ⟨g, 0, none⟩) 2 c, .int .i64 0]) ∧ w'.cell? ⟨g, 1, none⟩ = some (.slice (some y) 3 d) ∧ IsBytes w' (some y) 3 d [33, 7, 8] ∧ Below W.heap.size W w') := Hid.mk (fun W => by
    refine (split_ok _ 8 8 l8 _ (l8_at W) (by omega) (by omega)).mono ?_
    rintro e w' ⟨g, c, n, rfl, hn, hg, hp, -, hb⟩
    rw [l8_parts] at hp
    obtain ⟨h1, h2, h3, x, hx, h4⟩ := hp
    cases hx
    obtain ⟨y, d, h5, h6, -⟩ := h4 1 (by decide)
    have hn2 : n = 2 := by rw [hn]; rfl
    subst hn2
    rw [add1P] at h5
    exact ⟨g, c, y, d, rfl, h5, h6, bl2 (awG W _) hb⟩)
  have HSD : Hid (∀ W : World, Calls Try.prog 26 #[.slice (some ⟨W.heap.size, 0, none⟩) 8 8, .int .i64 0] (W.alloc (.cells #[.int .u8 1, .int .u8 2, .int .u8 3, .int .u8 4, .int .u8 5, .int .u8 6, .int .u8 7, .int .u8 8] 5)) fun e w' => ∃ o m c, e = .returned (.tuple #[.slice o m c, .int .i64 3, .int .i64 0]) ∧ IsBytes w' o m c l8 ∧ Below W.heap.size W w') := Hid.mk (fun W => by
    refine (send_ok _ 8 8 0 l8 _ (l8_at W) (by omega) (by omega) (by omega)).mono ?_
    rintro e w' ⟨o, m, c, rfl, hy, hb⟩
    exact ⟨o, m, c, rfl, hy, bl2 (awG W _) hb⟩)
  go_enter Try.func12, Try.ntmps12
  go_wp2_with fail
  refine (HSP.out _).mono ?_
  rintro e w1 ⟨g, c, y, d, rfl, hc1, hY1, hb1⟩
  have HC1 := Hid.mk hc1
  have HY1 := Hid.mk hY1
  have HB1 := Hid.mk hb1
  clear hc1 hY1 hb1 HSP
  go_wp2_with fail
  refine (HSD.out _).mono ?_
  rintro e w2 ⟨o, m, c2, rfl, hY2, hb2⟩
  have hc2 := cell_kept hb2 HC1.out
  have HB2 := Hid.mk (bl2 HB1.out hb2)
  have hba := awG w2 (.cells #[.int .u8 33, .int .u8 7, .int .u8 8] 5)
  have HE1 := Hid.mk (equal_is (isBytes_below (isBytes_below HY1.out hb2) hba) (l3_at w2))
  have HY2 := Hid.mk hY2
  clear hb2 HC1 HY1 HB1 HSD hba hY2
  go_wp2_with fail
  refine HE1.out.mono ?_
  rintro e w3 ⟨rfl, hb3⟩
  have hb3' := bl2 (awG w2 (.cells #[.int .u8 33, .int .u8 7, .int .u8 8] 5)) hb3
  have HB3 := Hid.mk (bl2 HB2.out hb3')
  have hba := awG w3 (.cells #[.int .u8 1, .int .u8 2, .int .u8 3, .int .u8 4, .int .u8 5, .int .u8 6, .int .u8 7, .int .u8 8] 5)
  have HE2 := Hid.mk (equal_is (isBytes_below (isBytes_below HY2.out hb3') hba) (l8_at w3))
  have HB4 := Hid.mk (bl2 HB3.out hba)
  clear hb3 hb3' hba HE1 HY2 HB2 HB3 hc2
  go_wp2_with fail
  refine HE2.out.mono ?_
  rintro e w4 ⟨rfl, hb4⟩
  have HB5 := Hid.mk (bl2 HB4.out hb4)
  clear hb4 HE2 HB4
  go_wp2_with fail
  go_ret
  exact ⟨rfl, HB5.out⟩
end Bw
end Go.Proofs.Ytgjnfmbmndnihaa
