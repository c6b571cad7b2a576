/- What it says of a frame that it is right; of no program. -/
import Derived.Test.YtgjkioknnjbjfaaDoorFrameMath
namespace Go.Proofs.YtgjkioknnjbjfaaDoor
namespace Bw
open Bm Cm
theorem frE_ok {f : Fr} (h : frE f = 0) : 0 ≤ f.id ∧ f.id ≤ topI f.lo ∧ (f.re = true → f.fa = false ∧ f.dt.length = 0) ∧ 0 ≤ f.sz ∧ f.sz ≤ 8 ∧ (f.re = false → f.sz = 0) ∧ f.dt.length ≤ 64 ∧ (f.fa = false → f.dt.length ≤ 8) ∧ f.dt.length ∈ sizesL := by
  obtain ⟨id, lo, fa, re, sz, dt⟩ := f
  unfold frE frEn at h
  simp only at h ⊢
  split at h
  · cases h
  · split at h
    · cases h
    · split at h
      · cases h
      · split at h
        · cases h
        · split at h
          · rename_i h1 h2 h3 h4 h5
            refine ⟨by omega, by omega, fun hr => ?_, by omega, by omega, fun hr => ?_, by omega, fun hf => ?_, h5⟩
            · subst hr
              cases fa
              · exact ⟨rfl, by simpa using h2⟩
              · exact absurd ⟨rfl, .inl rfl⟩ h2
            · subst hr
              have : ¬ 0 < sz := fun h => h3 (.inr (.inr ⟨h, rfl⟩))
              omega
            · subst hf
              have : ¬ 8 < dt.length := fun h => h4 (.inr ⟨h, rfl⟩)
              omega
          · cases h
end Bw
end Go.Proofs.YtgjkioknnjbjfaaDoor
