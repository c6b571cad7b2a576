/- What the row's step tells a walk of a slice of integers that came in, and what that says of bytes. -/
import Derived.Test.YtgjnfmbmndnihaaBase8
import Derived.Test.YtgjnfmbmndnihaaIsRow0
namespace Go.Proofs.Ytgjnfmbmndnihaa
open Go.ChangeShapes Go.WideShapes Go.ChangeAt Go.RowKit
namespace Bw
theorem isBytes_of_row {w : World} {a : Option Addr} {len cap : Nat} {zs : List Int} (h : IsRow .u8 w a len cap zs) : ∃ l, IsBytes w a len cap l := by
  rcases h with ⟨rfl, rfl, rfl, rfl⟩ | ⟨x, rfl, hl, hm, hz, hc, hw⟩
  · exact ⟨[], rfl, Nat.le_refl _, Nat.zero_le _, (fun _ => rfl), (fun x hx => by cases hx)⟩
  · refine ⟨(zs.take len).map fun z => UInt8.ofNat z.toNat, by simp; omega, hl, hm, (fun h => by cases h), ?_⟩
    intro y hy i hi
    cases hy
    rw [hc i (by omega)]
    have hi' : i < zs.length := by omega
    have hb : 0 ≤ zs[i] ∧ zs[i] ≤ 255 := by
      have := hw zs[i] (List.getElem_mem _)
      simpa [Lit.wf, IntKind.min, IntKind.max, IntKind.signed, IntKind.bits] using this
    have e1 : zs.getD i 0 = zs[i] := by simp [List.getD, hi']
    have e2 : ((zs.take len).map fun z => UInt8.ofNat z.toNat).getD i 0 = UInt8.ofNat zs[i].toNat := by
      simp [List.getD, hi, hi']
    rw [e1, e2]
    have e3 : (UInt8.ofNat zs[i].toNat).toNat = zs[i].toNat := by
      rw [UInt8.toNat_ofNat']; omega
    rw [e3]
    congr 2
    omega
end Bw
end Go.Proofs.Ytgjnfmbmndnihaa
