/- omnibusbig's fractions: SetFrac64 with a lower part above 0. -/
import Derived.Test.YtgknolliicachaaDoorBigFrac
namespace Go.Proofs.YtgknolliicachaaDoor
open Go.ChangeShapes Go.WideShapes Go.ChangeAt Go.RowKit Go.Sort
namespace Ww
open Wm Sm
open Bw (Tch bl2 cell_kept)
theorem setFrac_pos (g : Nat) (cs : List Value) (ga oa gb ob : Nat) (p q : Int) (w : World) (hB : BlkAt w g cs 70) (hV : RatV cs) (ha : ZAt w ga oa p) (hb : ZAt w gb ob q) (hq : 0 < q) (hp1 : -4611686018427387903 ≤ p) (hp2 : p ≤ 4611686018427387903) (hq2 : q ≤ 4611686018427387903) :
    Calls Tryd.prog 65 #[.pointer (some ⟨g, 0, none⟩), .pointer (some ⟨ga, oa, none⟩), .pointer (some ⟨gb, ob, none⟩)] w fun e w' => e = .returned (.pointer (some ⟨g, 0, none⟩)) ∧ RatAt w' g (numL p q) (denL p q) ∧ Tch [g] w w' :=
  setFrac_z g cs ga oa gb ob p q _ _ w hB hV ha hb (by omega) hp1 hp2 (by omega) hq2 (fun W h => norm_pos g p q W h hq hp1 hp2 hq2)
set_option maxHeartbeats 8000000 in
set_option maxRecDepth 100000 in
theorem setFrac64_z (g : Nat) (cs : List Value) (p q : Int) (w : World) (hB : BlkAt w g cs 70) (hV : RatV cs) (hq : 0 < q) (hp1 : -4611686018427387903 ≤ p) (hp2 : p ≤ 4611686018427387903) (hq2 : q ≤ 4611686018427387903) :
    Calls Tryd.prog 39 #[.pointer (some ⟨g, 0, none⟩), .int .i64 p, .int .i64 q] w fun e w' => e = .returned (.pointer (some ⟨g, 0, none⟩)) ∧ RatAt w' g (numL p q) (denL p q) ∧ Tch [g] w w' := by
  have HN1 := Hid.mk (newInt_z p w hp1 hp2)
  have HN2 := Hid.mk (fun W => newInt_z q W (by omega) hq2)
  have HS := Hid.mk (fun ga gb W h1 h2 h3 => setFrac_pos g cs ga 0 gb 0 p q W h1 hV h2 h3 hq hp1 hp2 hq2)
  have HB := Hid.mk hB
  clear hB hV hq hp1 hp2 hq2
  go_enter Tryd.func39, Tryd.ntmps39
  go_wp2_with fail
  with_reducible refine HN1.out.mono ?_
  rintro e w1 ⟨rfl, hz1, -, hb1⟩
  have HZ1 := Hid.mk hz1
  have HB1 := Hid.mk hb1
  clear hz1 hb1
  go_wp2_with fail
  with_reducible refine (HN2.out _).mono ?_
  rintro e w2 ⟨rfl, hz2, -, hb2⟩
  have HC := Hid.mk (HS.out w.heap.size w1.heap.size w2 (HB.out.kept (bl2 HB1.out hb2)) (HZ1.out.kept hb2) hz2)
  have HB2 := Hid.mk (bl2 HB1.out hb2)
  clear hz2 hb2 HS
  go_wp2_with fail
  with_reducible refine HC.out.mono ?_
  rintro e w3 ⟨rfl, hR, ht⟩
  have HR := Hid.mk hR
  have HT := Hid.mk ((Tch.of HB2.out).trans ht)
  clear hR ht
  go_wp2_with fail
  go_ret
  exact ⟨rfl, HR.out, HT.out⟩
end Ww
end Go.Proofs.YtgknolliicachaaDoor
