/- The law FilterBoth, of what came in. -/
import Derived.Test.YtfmjhgggoklaoaaDoorFbothB
import Derived.Test.YtfmjhgggoklaoaaDoorLastsRow
import Derived.Test.YtfmjhgggoklaoaaDoorSizesRow
import Derived.Test.YtfmjhgggoklaoaaDoorFilSized
namespace Go.Proofs.YtfmjhgggoklaoaaDoor
open Go.ChangeShapes Go.WideShapes Go.ChangeAt Go.RowKit
namespace filterBoth
open Bw
theorem walk (a : Option Addr) (na ca : Nat) (la : List Fl) (b : Option Addr) (nb cb : Nat) (lb : List Fl) (id : Int) (lo fa re : Bool) (sz : Int) (fa0 : Option Addr) (len cap : Nat) (zs : List Int) (w : World) (hF : IsFils w a na ca la) (hFb : IsFils w b nb cb lb)
    (_ : (Lit.int .i64 id).wf = true) (_ : (Lit.int .i64 sz).wf = true) (hr : IsRow .u8 w fa0 len cap zs) (hsa : na * 24 ≤ 140737488351232) (hsb : nb * 24 ≤ 140737488351232) (hL : laidMet Tryd.prog Rows.filterBothRow.laid w) :
    Calls Tryd.prog 8 #[.slice a na ca, .slice b nb cb, frameV id lo fa re sz fa0 len cap] w fun e w' => e = .returned (.bool true) ∧ Below w.heap.size w w' := by
  have hl := lasts_of hL (by simp [Rows.filterBothRow])
  have hs := sizes_of hL (by simp [Rows.filterBothRow])
  have hlen : len ≤ maxLen := by
    rcases hr with ⟨_, rfl, _, _⟩ | ⟨x, _, h1, h2, _⟩
    · exact Nat.zero_le _
    · omega
  by_cases hne : inE la id lo fa re sz len ≠ 0 ∨ inE lb id lo fa re sz len ≠ 0 ∨ inE (la ++ lb) id lo fa re sz len ≠ 0
  · exact fboth_bad a na ca la b nb cb lb id lo fa re sz fa0 len cap w hF hFb hl hs hlen (by omega) hne
  · have h1 : inE la id lo fa re sz len = 0 := by
      by_cases h : inE la id lo fa re sz len = 0
      · exact h
      · exact absurd (.inl h) hne
    have h2 : inE lb id lo fa re sz len = 0 := by
      by_cases h : inE lb id lo fa re sz len = 0
      · exact h
      · exact absurd (.inr (.inl h)) hne
    have h3 : inE (la ++ lb) id lo fa re sz len = 0 := by
      by_cases h : inE (la ++ lb) id lo fa re sz len = 0
      · exact h
      · exact absurd (.inr (.inr h)) hne
    have key : ∀ l, inE l id lo fa re sz len = 0 → chkFl l = 0 ∧ frEn id lo fa re sz len = 0 := by
      intro l h
      unfold inE at h
      split at h
      · rename_i h'
        exact ⟨h', h⟩
      · rename_i h'
        exact absurd h h'
    obtain ⟨c1, hg⟩ := key la h1
    obtain ⟨c2, _⟩ := key lb h2
    obtain ⟨c3, _⟩ := key (la ++ lb) h3
    have n3 := (chkFl_zero c3).1
    obtain ⟨xs, rfl, hoka⟩ := fn_of (chkFl_zero c1).2
    obtain ⟨ys, rfl, hokb⟩ := fn_of (chkFl_zero c2).2
    have hna := hF.len
    have hnb := hFb.len
    obtain ⟨hi0, hi1⟩ := frEn_id hg
    obtain ⟨k, rfl⟩ := Int.eq_ofNat_of_zero_le hi0
    rw [List.length_append] at n3
    exact fboth_ok a na ca xs b nb cb ys k lo fa re sz fa0 len cap w hF hFb hl hs hlen hoka hokb (by omega) hg (by omega)
end filterBoth
end Go.Proofs.YtfmjhgggoklaoaaDoor
