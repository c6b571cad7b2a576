/- What the document's own SameFrame answers of frames that are alike. -/
import Derived.Test.YtgjkioknnjbjfaaDoorFrameOk
import Derived.Test.YtgjkioknnjbjfaaDoorFrCheck
import Derived.Test.YtgjkioknnjbjfaaDoorEqualB
namespace Go.Proofs.YtgjkioknnjbjfaaDoor
open Go.ChangeShapes Go.WideShapes Go.ChangeAt Go.RowKit
namespace Bw
open Bm Cm

set_option maxHeartbeats 8000000 in
theorem sameFrame_true (f : Fr) (a1 a2 : Option Addr) (n1 c1 n2 c2 : Nat) (w : World) (h1 : IsBytes w a1 n1 c1 f.dt) (h2 : IsBytes w a2 n2 c2 f.dt) :
    Calls Tryd.prog 19 #[frameV f.id f.lo f.fa f.re f.sz a1 n1 c1, frameV f.id f.lo f.fa f.re f.sz a2 n2 c2] w fun e w' => e = .returned (.bool true) ∧ Below w.heap.size w w' := by
  obtain ⟨id, lo, fa, re, sz, dt⟩ := f
  simp only at h1 h2 ⊢
  have hB1 := below_box w id lo fa re sz a1 n1 c1
  have hB2 := below_box (w.alloc (frameC id lo fa re sz a1 n1 c1)) id lo fa re sz a2 n2 c2
  have hB := bl2 hB1 hB2
  have hn : n1 = n2 := h1.1.symm.trans h2.1
  subst hn
  have hmx : n1 ≤ maxLen := by have := h1.2.1; have := h1.2.2.1; omega
  have hY1 := isBytes_below h1 hB
  have hY2 := isBytes_below h2 hB
  have hbe := equalB_true _ a1 a2 n1 c1 c2 dt hmx ⟨hY1.2.2.2.1, hY1.2.2.2.2⟩ ⟨hY2.2.2.2.1, hY2.2.2.2.2⟩
  have HBE := Hid.mk hbe
  have HB := Hid.mk hB
  unfold frameC at HBE HB
  unfold frameV
  clear h1 h2 hB1 hB2 hB hbe hY1 hY2 hmx
  go_enter Tryd.func19, Tryd.ntmps19
  go_wp2_with fail
  refine HBE.out.mono ?_
  rintro e w1 ⟨rfl, hb1⟩
  have hbel := bl2 HB.out hb1
  clear hb1
  go_wp2_with fail
  go_ret
  exact ⟨rfl, hbel⟩
end Bw
end Go.Proofs.YtgjkioknnjbjfaaDoor
