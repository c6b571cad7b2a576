/- What filter.Ranges answers. -/
import Derived.Test.YtfmjhgggoklaoaaDoorFilRow
import Derived.OwnWalk
import Derived.OneCell
import Derived.Laws.AppendOwn
namespace Go.Proofs.YtfmjhgggoklaoaaDoor
open Go.ChangeShapes Go.WideShapes Go.ChangeAt Go.RowKit
namespace Bw
theorem info_fil : (Tryd.prog.info? 34).map (fun i => (i.zero, i.size, i.bytes)) = some (some (.agg #[.int .i64 0, .int .i64 0, .bool false]), 3, 24) := by kernel_rfl
/-- filters as cells -/
def filC (l : List Fn) : List Value := l.flatMap fun x => x.f.cells
theorem filC_append (a b : List Fn) : filC (a ++ b) = filC a ++ filC b := by simp [filC]
theorem filC_one (x : Fn) : filC [x] = [.int .i64 x.w, .int .i64 x.m, .bool x.lo] := by simp [filC, Fn.f, Fl.cells]
theorem filC_len : ∀ l : List Fn, (filC l).length = l.length * 3
  | [] => rfl
  | x :: l => by rw [show x :: l = [x] ++ l from rfl, filC_append, List.length_append, filC_len l, filC_one]; simp; omega
theorem filC_cell : ∀ (l : List Fn) (i : Nat), i < l.length → (filC l)[i * 3]? = some (.int .i64 (l.getD i ⟨0, 0, false⟩).w) ∧ (filC l)[i * 3 + 1]? = some (.int .i64 (l.getD i ⟨0, 0, false⟩).m) ∧ (filC l)[i * 3 + 2]? = some (.bool (l.getD i ⟨0, 0, false⟩).lo)
  | [], i, h => absurd h (Nat.not_lt_zero _)
  | x :: l, i, h => by
    rw [show x :: l = [x] ++ l from rfl, filC_append, filC_one]
    cases i with
    | zero => simp
    | succ i =>
      have ih := filC_cell l i (by simpa using h)
      have e : (i + 1) * 3 = i * 3 + 1 + 1 + 1 := by omega
      rw [e]
      simpa using ih
/-- a row of filters of one's own is a row of filters -/
theorem fils_of {w : World} {base : Nat} {v : Value} {l : List Fn} (h : w.ownsRow base 34 3 v l.length (filC l)) : ∃ a cap, v = .slice a l.length cap ∧ IsFils w a l.length cap (l.map Fn.f) := by
  rcases h.2 with ⟨hv, hn⟩ | ⟨g, cap, cur, hv, _, hh, hc, hm, hsz, htk⟩
  · refine ⟨none, 0, by rw [hv, hn], ?_⟩
    have hl : l = [] := by simpa using hn
    subst hl
    exact ⟨rfl, Nat.le_refl _, Nat.zero_le _, fun _ => rfl, fun x hx => by cases hx⟩
  · refine ⟨_, cap, hv, by simp, hc, hm, (fun h => by cases h), ?_⟩
    intro x hx i hi
    cases hx
    subst hv
    obtain ⟨c0, c1, c2⟩ := filC_cell l i hi
    have hl := h.1
    have ea : ∀ j, (Addr.add ⟨g, 0, none⟩ j) = ⟨g, j, none⟩ := by intro j; simp [Addr.add]; exact fun h => h.symm
    have eg : (l.map Fn.f).getD i noF = (l.getD i ⟨0, 0, false⟩).f := by simp [List.getD, hi]
    have hcell := h.cells (g := g) rfl
    rw [eg]
    exact ⟨hcell _ _ c0, hcell _ _ c1, hcell _ _ c2⟩
def rngB (low high : Int) (lo : Bool) : Bool := decide (0 ≤ low ∧ low ≤ high ∧ high ≤ topN lo)
def rngE (low high : Int) (lo : Bool) : Int := if rngB low high lo = true then 0 else 3
def rngO (low high : Int) (lo : Bool) : List Fn := if rngB low high lo = true then rngN lo high.toNat low.toNat else []
theorem rng_no {low high : Int} {lo : Bool} (h : ¬ (0 ≤ low ∧ low ≤ high ∧ high ≤ topN lo)) : rngE low high lo = 3 ∧ rngO low high lo = [] := by
  have : rngB low high lo = false := by unfold rngB; simpa using h
  unfold rngE rngO
  rw [this]
  exact ⟨rfl, rfl⟩
set_option maxHeartbeats 4000000 in
set_option maxRecDepth 100000 in
theorem ranges_bad (low high : Int) (lo : Bool) (w : World) (hL : LastsAt w) (h : ¬ (0 ≤ low ∧ low ≤ high ∧ high ≤ topN lo)) :
    Calls Tryd.prog 22 #[.int .i64 low, .int .i64 high, .bool lo] w fun e w' => e = .returned (.tuple #[.slice none 0 0, .int .i64 3]) ∧ Below w.heap.size w w' := by
  have HLa := Hid.mk (last_any lo w hL)
  clear hL
  by_cases h0 : low < 0
  · clear h
    go_enter Tryd.func22, Tryd.ntmps22
    go_wp2_with fail
    go_ret2
    exact ⟨rfl, Below.refl _ _⟩
  · by_cases h1 : high < low
    · clear h
      go_enter Tryd.func22, Tryd.ntmps22
      go_wp2_with fail
      go_ret2
      exact ⟨rfl, Below.refl _ _⟩
    · have h2 : (topN lo : Int) < high := by omega
      have h0' : 0 ≤ low := by omega
      have h1' : low ≤ high := by omega
      clear h h0 h1
      go_enter Tryd.func22, Tryd.ntmps22
      go_wp2_with fail
      refine HLa.out.mono ?_
      rintro e w1 ⟨rfl, rfl⟩
      go_wp2_with fail
      go_ret2
      exact ⟨rfl, Below.refl _ _⟩
theorem mask_rng (lo : Bool) (low high : Nat) (h : low ≤ high) (hh : high ≤ topN lo) : bits .andNot .i64 (topN lo : Int) (((2 ^ grX low high : Nat) : Int) - 1) = ((topN lo - (2 ^ grX low high - 1) : Nat) : Int) := by
  obtain ⟨_, h2⟩ := grX_spec h
  have ht := topN_le lo
  have hp := Nat.two_pow_pos (grX low high)
  have hlt := topN_lt lo
  generalize 2 ^ grX low high = q at *
  rw [show (q : Int) - 1 = ((q - 1 : Nat) : Int) by omega, andnot_i64 _ _ (by omega) (by omega), topN_eq, andnot_top _ _ (by omega)]
set_option maxHeartbeats 4000000 in
set_option maxRecDepth 100000 in
theorem ranges_ok (low high : Nat) (lo : Bool) (w : World) (hL : LastsAt w) (h : low ≤ high) (hh : high ≤ topN lo) :
    Calls Tryd.prog 22 #[.int .i64 low, .int .i64 high, .bool lo] w fun e w' => ∃ v, e = .returned (.tuple #[v, .int .i64 0]) ∧
      w'.ownsRow w.heap.size 34 3 v (rngN lo high low).length (filC (rngN lo high low)) ∧ Below w.heap.size w w' := by
  obtain ⟨i0, hi, hz0, hz1, hz2⟩ := info_parts info_fil
  have HL := Hid.mk hL
  have HLa := Hid.mk (fun W (hb : Below w.heap.size w W) => last_any lo W (hL.kept hb))
  have ht := topN_le lo
  have hh' : (high : Int) ≤ (topN lo : Int) := by omega
  have h' : (low : Int) ≤ (high : Int) := by omega
  have HH := Hid.mk hh
  clear hL hh
  generalize ht' : topN lo = t at *
  have HT := Hid.mk ht'
  clear ht'
  have d0 : decide ((low : Int) < 0) = false := by simp
  have d1 : decide ((high : Int) < (low : Int)) = false := by simp; omega
  have d2 : decide ((t : Int) < (high : Int)) = false := by simp; omega
  have d3 : decide (high < low) = false := by simp; omega
  have d4 : decide (t < high) = false := by simp; omega
  go_enter Tryd.func22, Tryd.ntmps22
  go_wp2_with fail
  refine (HLa.out _ (Below.refl _ _)).mono ?_
  rintro e w1 ⟨rfl, hw1⟩
  subst hw1
  go_wp2_with fail
  go_loopw [8, 0] (fun v s wr => ∃ (cur : Nat) (acc : List Fn), low ≤ cur ∧ cur ≤ high + 1 ∧ acc.length ≤ cur ∧ s = .int .i64 cur ∧ Hid (acc ++ rngN lo high cur = rngN lo high low) ∧ Hid (wr.ownsRow w1.heap.size 34 3 v acc.length (filC acc)) ∧ Hid (Below w1.heap.size w1 wr)) (fun _ s _ => high + 1 - (intOf s).toNat)
  case atStart => exact ⟨low, [], Nat.le_refl _, by omega, by simp, rfl, Hid.mk rfl, Hid.mk (World.ownsRow_nil _ _ _ _), Hid.mk (Below.refl _ _)⟩
  case round =>
    obtain ⟨cur, acc, hc1, hc2, hal, rfl, HACC, HO, HB⟩ := hrel
    by_cases hlt : cur ≤ high
    · have hlt' : (cur : Int) ≤ (high : Int) := by omega
      have HG := Hid.mk (greatest_any cur high wr hlt (by omega))
      have hm := mask_rng lo cur high hlt (by rw [HT.out]; exact HH.out)
      obtain ⟨_, hg2⟩ := grX_spec hlt
      have hg1 := Nat.two_pow_pos (grX cur high)
      have HN := Hid.mk (rngN_more (lo := lo) hlt)
      rw [HT.out] at hm HN
      generalize 2 ^ grX cur high = q at *
      obtain ⟨mk, hmk⟩ : ∃ mk, mk = t - (q - 1) := ⟨_, rfl⟩
      rw [← hmk] at hm HN
      clear hmk
      go_wp2_with fail
      refine HG.out.mono ?_
      rintro e w2 ⟨rfl, hw2⟩
      subst hw2
      go_wp2_with fail
      refine (HLa.out _ HB.out).mono ?_
      rintro e w3 ⟨rfl, hw3⟩
      subst hw3
      go_wp2_with (at_builtin; refine wpList_append_own _ rfl (.tmp 29) (.tmp 38) 22 rfl w1.heap.size 34 i0 (.agg #[.int .i64 0, .int .i64 0, .bool false]) 3 24 Tryd.underlying22 hi hz0 hz1 hz2 rfl (by decide) _ _ _ rfl (HO.out.alloc _) ⟨w3.heap.size, 0, none⟩ 1 1 [Value.int .i64 cur, Value.int .i64 mk, Value.bool lo] rfl rfl (by intro k u hk; match k, hk with | 0, hk => (simp at hk; subst hk; simp [Addr.add]) | 1, hk => (simp at hk; subst hk; simp [Addr.add]) | 2, hk => (simp at hk; subst hk; simp [Addr.add])) (by intro u hu; simp at hu; rcases hu with rfl | rfl | rfl <;> rfl) (by unfold maxLen; omega) (by omega) (by have := HB.out.size; simp; omega) ?_; intro v3 w4 hown3 hgrow3 _)
      have hB4 : Below w1.heap.size w1 w4 := Below.grown (HB.out.alloc HB.out.size _) hgrow3 (by have := HB.out.size; simp; omega) (fun q hq => (HO.out.lt q hq).1)
      have hown4 := hown3
      rw [← filC_one ⟨cur, mk, lo⟩, ← filC_append, show acc.length + 1 = (acc ++ [(⟨cur, mk, lo⟩ : Fn)]).length by simp] at hown4
      have HO4 := Hid.mk hown4
      have HB4 := Hid.mk hB4
      clear hown3 hown4 hB4 hgrow3
      go_roundw
      case rel =>
        refine ⟨cur + q, acc ++ [⟨cur, mk, lo⟩], by omega, by omega, by simp; omega, by go_num, ?_, HO4, HB4⟩
        have := HACC.out
        rw [HN.out] at this
        exact Hid.mk (by rw [List.append_assoc]; exact this)
      case measure => simp [intOf]; omega
    · have hle : (high : Int) < (cur : Int) := by omega
      have HE := Hid.mk (rngN_end (lo := lo) hlt)
      have hfin := HACC.out
      rw [HE.out, List.append_nil] at hfin
      rw [hfin] at HO
      clear hfin
      go_wp2_with fail
      go_ret2
      exact ⟨_, rfl, HO.out, HB.out⟩
/-- the filters of any range -/
theorem ranges_any (low high : Int) (lo : Bool) (w : World) (hL : LastsAt w) :
    Calls Tryd.prog 22 #[.int .i64 low, .int .i64 high, .bool lo] w fun e w' => ∃ v, e = .returned (.tuple #[v, .int .i64 (rngE low high lo)]) ∧
      w'.ownsRow w.heap.size 34 3 v (rngO low high lo).length (filC (rngO low high lo)) ∧ Below w.heap.size w w' := by
  by_cases h : 0 ≤ low ∧ low ≤ high ∧ high ≤ topN lo
  · obtain ⟨a, rfl⟩ := Int.eq_ofNat_of_zero_le h.1
    obtain ⟨b, rfl⟩ := Int.eq_ofNat_of_zero_le (Int.le_trans h.1 h.2.1)
    have hb : rngB (a : Int) (b : Int) lo = true := by unfold rngB; simpa using h
    have e1 : rngE (a : Int) (b : Int) lo = 0 := by unfold rngE; rw [if_pos hb]
    have e2 : rngO (a : Int) (b : Int) lo = rngN lo b a := by unfold rngO; rw [if_pos hb]; rfl
    rw [e1, e2]
    exact ranges_ok a b lo w hL (by omega) (by omega)
  · obtain ⟨e1, e2⟩ := rng_no h
    rw [e1, e2]
    refine (ranges_bad low high lo w hL h).mono ?_
    rintro e w' ⟨rfl, hb⟩
    exact ⟨_, rfl, World.ownsRow_nil _ _ _ _, hb⟩
end Bw
end Go.Proofs.YtfmjhgggoklaoaaDoor
