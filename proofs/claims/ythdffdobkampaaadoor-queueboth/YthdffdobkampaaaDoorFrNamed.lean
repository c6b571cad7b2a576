/- What frame.Name answers. -/
import Derived.Test.YthdffdobkampaaaDoorFrName
namespace Go.Proofs.YthdffdobkampaaaDoor
open Go.ChangeShapes Go.WideShapes Go.ChangeAt Go.RowKit
namespace Bw
open Bm Cm

def nameA (f : Fr) : Value := if frE f = 0 then .tuple #[.string ⟨(nameL f).toArray⟩, .int .i64 0] else .tuple #[.string ⟨#[]⟩, .int .i64 (frE f)]
set_option maxHeartbeats 4000000 in
theorem frName_any (f : Fr) (a : Option Addr) (len cap : Nat) (w : World) (hS : SizesAt w) (hl : len ≤ maxLen) (hd : f.dt.length = len) :
    Calls Tryd.prog 26 #[frameV f.id f.lo f.fa f.re f.sz a len cap] w fun e w' => e = .returned (nameA f) ∧ Below w.heap.size w w' := by
  have hB := below_box w f.id f.lo f.fa f.re f.sz a len cap
  have hK := FrAt.box w f.id f.lo f.fa f.re f.sz a len cap
  have hck := frCheck_any f.id f.lo f.fa f.re f.sz a len cap _ (hS.kept hB) hl
  have hE : frEn f.id f.lo f.fa f.re f.sz len = frE f := by unfold frE; rw [hd]
  rw [hE] at hck
  have hnm := fun W h0 h1 => name_any f a len cap W h0 h1
  have hok := fun h => frE_ok (f := f) h
  unfold frameC at hB hK hck
  unfold frameV at hnm hck ⊢
  unfold nameA
  have HK := Hid.mk hK
  have HCK := Hid.mk hck
  have HNM := Hid.mk hnm
  have HOK := Hid.mk hok
  clear hS hl hd hK hck hnm hE hok
  by_cases hE : frE f = 0
  · rw [if_pos hE]
    obtain ⟨q1, q2, -⟩ := HOK.out hE
    have HQ1 := Hid.mk q1
    have HQ2 := Hid.mk q2
    rw [hE] at HCK
    clear hE q1 q2
    go_enter Tryd.func26, Tryd.ntmps26
    go_wp2_with fail
    refine HCK.out.mono ?_
    rintro e w1 ⟨rfl, hb1⟩
    have hbel1 := bl2 hB hb1
    obtain ⟨k0, k1, k2, k3, k4, k5⟩ := HK.out.kept hb1
    clear hB hb1
    go_wp2_with fail
    refine (HNM.out _ HQ1.out HQ2.out).mono ?_
    rintro e w2 ⟨rfl, hb2⟩
    have hbel2 := bl2 hbel1 hb2
    clear hbel1 hb2 k0 k1 k2 k3 k4 k5
    go_wp2_with fail
    go_ret2
    exact ⟨rfl, hbel2⟩
  · rw [if_neg hE]
    have hne : (frE f != 0) = true := by simpa using hE
    generalize frE f = ce at *
    go_enter Tryd.func26, Tryd.ntmps26
    go_wp2_with fail
    refine HCK.out.mono ?_
    rintro e w1 ⟨rfl, hb1⟩
    have hbel1 := bl2 hB hb1
    clear hB hb1
    go_wp2_with fail
    go_ret2
    exact ⟨rfl, hbel1⟩

end Bw
end Go.Proofs.YthdffdobkampaaaDoor
