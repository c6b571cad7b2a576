/- The law FilterSame, of what came in. -/
import Derived.Test.YtfmjhgggoklaoaaDoorFsameA
import Derived.Test.YtfmjhgggoklaoaaDoorFsameB
import Derived.Test.YtfmjhgggoklaoaaDoorFsameC
import Derived.Test.YtfmjhgggoklaoaaDoorFsameD
import Derived.Test.YtfmjhgggoklaoaaDoorLastsRow
import Derived.Test.YtfmjhgggoklaoaaDoorSizesRow
namespace Go.Proofs.YtfmjhgggoklaoaaDoor
open Go.ChangeShapes Go.WideShapes Go.ChangeAt Go.RowKit
namespace filterSame
open Bw
theorem walk (a : Option Addr) (n c : Nat) (l : List Fl) (id : Int) (lo fa re : Bool) (sz : Int) (fa0 : Option Addr) (len cap : Nat) (zs : List Int) (low high : Int) (w : World) (hF : IsFils w a n c l)
    (_ : (Lit.int .i64 id).wf = true) (_ : (Lit.int .i64 sz).wf = true) (hr : IsRow .u8 w fa0 len cap zs) (_ : (Lit.int .i64 low).wf = true) (_ : (Lit.int .i64 high).wf = true) (hL : laidMet Tryd.prog Rows.filterSameRow.laid w) :
    Calls Tryd.prog 7 #[.slice a n c, frameV id lo fa re sz fa0 len cap, .int .i64 low, .int .i64 high] w fun e w' => e = .returned (.bool true) ∧ Below w.heap.size w w' := by
  have hl := lasts_of hL (by simp [Rows.filterSameRow])
  have hs := sizes_of hL (by simp [Rows.filterSameRow])
  have hlen : len ≤ maxLen := by
    rcases hr with ⟨_, rfl, _, _⟩ | ⟨x, _, h1, h2, _⟩
    · exact Nat.zero_le _
    · omega
  by_cases hrg : 0 ≤ low ∧ low ≤ high ∧ high ≤ (topN lo : Int)
  · obtain ⟨q, rfl⟩ := Int.eq_ofNat_of_zero_le hrg.1
    obtain ⟨p, rfl⟩ := Int.eq_ofNat_of_zero_le (Int.le_trans hrg.1 hrg.2.1)
    have h1 : q ≤ p := by omega
    have h2 : p ≤ topN lo := by omega
    rcases Nat.lt_or_ge 16 (rngN lo p q).length with hM | hM
    · by_cases h : chkFl l = 0
      · obtain ⟨hc1, hc2⟩ := chkFl_zero h
        obtain ⟨ns, rfl, hok⟩ := fn_of hc2
        have hln := hF.len
        have hn : n ≤ 16 := by omega
        by_cases hg : frEn id lo fa re sz len = 0
        · obtain ⟨hi0, hi1⟩ := frEn_id hg
          obtain ⟨k, rfl⟩ := Int.eq_ofNat_of_zero_le hi0
          cases hany : anyN ns lo k
          · exact fsD_m a n c ns k lo fa re sz fa0 len cap q p w hF hl hs hlen hok hn hg (by omega) hany h1 h2 hM
          · exact fsC_m a n c ns k lo fa re sz fa0 len cap q p w hF hl hs hlen hok hn hg (by omega) hany h1 h2 hM
        · exact fsB_m a n c ns id lo fa re sz fa0 len cap q p w hF hl hs hlen hok hn hg h1 h2 hM
      · exact fsA_m a n c l id lo fa re sz fa0 len cap q p w hF hl h h1 h2 hM
    · by_cases hg : frEn id lo fa re sz len = 0
      · obtain ⟨hi0, hi1⟩ := frEn_id hg
        obtain ⟨k, rfl⟩ := Int.eq_ofNat_of_zero_le hi0
        have hk : k ≤ topN lo := by omega
        by_cases h : chkFl l = 0
        · obtain ⟨hc1, hc2⟩ := chkFl_zero h
          obtain ⟨ns, rfl, hok⟩ := fn_of hc2
          have hln := hF.len
          have hn : n ≤ 16 := by omega
          cases hany : anyN ns lo k
          · rcases Nat.lt_or_ge k q with hp | hp
            · exact fsD_fl a n c ns k lo fa re sz fa0 len cap q p w hF hl hs hlen hok hn hg hk hany h1 h2 hM hp
            · rcases Nat.lt_or_ge p k with hp2 | hp2
              · exact fsD_fh a n c ns k lo fa re sz fa0 len cap q p w hF hl hs hlen hok hn hg hk hany h1 h2 hM hp2
              · exact fsD_fi a n c ns k lo fa re sz fa0 len cap q p w hF hl hs hlen hok hn hg hk hany h1 h2 hM hp hp2
          · rcases Nat.lt_or_ge k q with hp | hp
            · exact fsC_fl a n c ns k lo fa re sz fa0 len cap q p w hF hl hs hlen hok hn hg hk hany h1 h2 hM hp
            · rcases Nat.lt_or_ge p k with hp2 | hp2
              · exact fsC_fh a n c ns k lo fa re sz fa0 len cap q p w hF hl hs hlen hok hn hg hk hany h1 h2 hM hp2
              · exact fsC_fi a n c ns k lo fa re sz fa0 len cap q p w hF hl hs hlen hok hn hg hk hany h1 h2 hM hp hp2
        · rcases Nat.lt_or_ge k q with hp | hp
          · exact fsA_fl a n c l k lo fa re sz fa0 len cap q p w hF hl hs hlen h hg hk h1 h2 hM hp
          · rcases Nat.lt_or_ge p k with hp2 | hp2
            · exact fsA_fh a n c l k lo fa re sz fa0 len cap q p w hF hl hs hlen h hg hk h1 h2 hM hp2
            · exact fsA_fi a n c l k lo fa re sz fa0 len cap q p w hF hl hs hlen h hg hk h1 h2 hM hp hp2
      · by_cases h : chkFl l = 0
        · obtain ⟨hc1, hc2⟩ := chkFl_zero h
          obtain ⟨ns, rfl, hok⟩ := fn_of hc2
          have hln := hF.len
          exact fsB_f a n c ns id lo fa re sz fa0 len cap q p w hF hl hs hlen hok (by omega) hg h1 h2 hM
        · exact fsA_fb a n c l id lo fa re sz fa0 len cap q p w hF hl hs hlen h hg h1 h2 hM
  · by_cases h : chkFl l = 0
    · obtain ⟨hc1, hc2⟩ := chkFl_zero h
      obtain ⟨ns, rfl, hok⟩ := fn_of hc2
      have hln := hF.len
      have hn : n ≤ 16 := by omega
      by_cases hg : frEn id lo fa re sz len = 0
      · obtain ⟨hi0, hi1⟩ := frEn_id hg
        obtain ⟨k, rfl⟩ := Int.eq_ofNat_of_zero_le hi0
        cases hany : anyN ns lo k
        · exact fsD_e a n c ns k lo fa re sz fa0 len cap low high w hF hl hs hlen hok hn hg (by omega) hany hrg
        · exact fsC_e a n c ns k lo fa re sz fa0 len cap low high w hF hl hs hlen hok hn hg (by omega) hany hrg
      · exact fsB_e a n c ns id lo fa re sz fa0 len cap low high w hF hl hs hlen hok hn hg hrg
    · exact fsA_e a n c l id lo fa re sz fa0 len cap low high w hF hl h hrg
end filterSame
end Go.Proofs.YtfmjhgggoklaoaaDoor
