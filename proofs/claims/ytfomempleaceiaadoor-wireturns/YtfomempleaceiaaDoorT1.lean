/- Whose name is ahead of all others' goes through: plain facts on lists; of no program. -/
import Derived.Test.YtfomempleaceiaaDoorC2
import Derived.Lib.Strings
import Derived.Test.YtfomempleaceiaaDoorW1
import Derived.Test.YtfomempleaceiaaDoorW3
namespace Go.Proofs.YtfomempleaceiaaDoor
namespace Bw
open Bm Cm

theorem less_val : ∀ (a b : List UInt8), a.length = b.length → rowB a = true → rowB b = true → Op.bytesLess a b = decide (val a < val b)
  | [], [], _, _, _ => rfl
  | [], _ :: _, h, _, _ => by simp at h
  | _ :: _, [], h, _, _ => by simp at h
  | c :: a, d :: b, h, ha, hb => by
    have hl : a.length = b.length := by simpa using h
    have ha' : bit c = true ∧ rowB a = true := by simpa [rowB] using ha
    have hb' : bit d = true ∧ rowB b = true := by simpa [rowB] using hb
    have ih := less_val a b hl ha'.2 hb'.2
    have va := val_lt a ha'.2
    have vb := val_lt b hb'.2
    rw [hl] at va
    rw [val_cons, val_cons, hl]
    generalize 2 ^ b.length = P at *
    have hc : c = 48 ∨ c = 49 := by have := ha'.1; simp [bit] at this; exact this
    have hd : d = 48 ∨ d = 49 := by have := hb'.1; simp [bit] at this; exact this
    have d48 : dig 48 = 0 := rfl
    have d49 : dig 49 = 1 := rfl
    rcases hc with rfl | rfl <;> rcases hd with rfl | rfl
    · rw [d48]; simp [Op.bytesLess, ih]
    · rw [d48, d49]; simp [Op.bytesLess]; omega
    · rw [d48, d49]; simp [Op.bytesLess]; omega
    · rw [d49]; simp [Op.bytesLess, ih]
theorem val_inj {a b : List UInt8} (hl : a.length = b.length) (ha : rowB a = true) (hb : rowB b = true) (h : val a = val b) : a = b := by
  have e1 := bits_val a ha
  have e2 := bits_val b hb
  rw [h, hl] at e1
  exact e1.symm.trans e2
def reN (r : Bool) : Nat := if r then 1 else 0
theorem name_valS (f : Fr) (hE : frE f = 0) (hlo : f.lo = false) : val (nameL f) = f.id.toNat * 4 + reN f.re * 2 := by
  obtain ⟨e1, e2, -⟩ := frE_ok hE
  rw [hlo] at e2
  have hid : f.id.toNat < 2 ^ 11 := by simp [topI] at e2; omega
  unfold nameL
  rw [hlo]
  simp only [Bool.false_eq_true, if_false]
  rw [val_append, val_row _ _ hid]
  cases f.re <;> rfl
theorem name_valL (f : Fr) (hE : frE f = 0) (hlo : f.lo = true) : ∃ x y, f.id.toNat = x * 262144 + y ∧ y < 262144 ∧ val (nameL f) = ((x * 4 + 3) * 262144 + y) * 2 + reN f.re := by
  obtain ⟨e1, e2, -⟩ := frE_ok hE
  rw [hlo] at e2
  have hid : f.id.toNat < 2 ^ 29 := by simp [topI] at e2; omega
  have hd : ((bitsHead f.id.toNat 29 29).drop 11).length = 18 := by simp [bitsHead_length]
  have hv := val_row f.id.toNat 29 hid
  rw [← List.take_append_drop 11 (bitsHead f.id.toNat 29 29), val_append, hd] at hv
  have hy := val_lt _ (rowB_drop (bitsHead_row f.id.toNat 29 29) 11)
  rw [hd] at hy
  refine ⟨val ((bitsHead f.id.toNat 29 29).take 11), val ((bitsHead f.id.toNat 29 29).drop 11), hv.symm, hy, ?_⟩
  unfold nameL
  rw [hlo]
  simp only [if_true]
  rw [val_append, val_append, val_append, hd]
  have v2 : val [49, 49] = 3 := rfl
  have l2 : ([49, 49] : List UInt8).length = 2 := rfl
  have l1 : ([bitB f.re] : List UInt8).length = 1 := rfl
  rw [v2, l2, l1]
  have vr : val [bitB f.re] = reN f.re := by cases f.re <;> rfl
  rw [vr]
theorem names_same (f g : Fr) (hf : frE f = 0) (hg : frE g = 0) (hlo : f.lo = g.lo) : decide (nameL f = nameL g) = (decide (f.id = g.id) && decide (f.re = g.re)) := by
  have hl : (nameL f).length = (nameL g).length := by rw [nameL_len, nameL_len, hlo]
  obtain ⟨e1, -⟩ := frE_ok hf
  obtain ⟨e2, -⟩ := frE_ok hg
  rw [Bool.eq_iff_iff, decide_eq_true_iff, Bool.and_eq_true, decide_eq_true_iff, decide_eq_true_iff]
  have hre : ∀ a b : Bool, reN a = reN b ↔ a = b := by decide
  constructor
  · intro h
    have hv := congrArg val h
    cases hfl : f.lo
    · rw [name_valS f hf hfl, name_valS g hg (by rw [← hlo]; exact hfl)] at hv
      have r1 : reN f.re ≤ 1 := by unfold reN; split <;> omega
      have r2 : reN g.re ≤ 1 := by unfold reN; split <;> omega
      exact ⟨by omega, (hre _ _).1 (by omega)⟩
    · obtain ⟨x, y, h1, h2, h3⟩ := name_valL f hf hfl
      obtain ⟨x', y', h1', h2', h3'⟩ := name_valL g hg (by rw [← hlo]; exact hfl)
      rw [h3, h3'] at hv
      have r1 : reN f.re ≤ 1 := by unfold reN; split <;> omega
      have r2 : reN g.re ≤ 1 := by unfold reN; split <;> omega
      exact ⟨by omega, (hre _ _).1 (by omega)⟩
  · rintro ⟨h1, h2⟩
    unfold nameL
    rw [hlo, h1, h2]
theorem names_less (f g : Fr) (hf : frE f = 0) (hg : frE g = 0) (hlo : f.lo = g.lo) (h : g.id < f.id) : Op.bytesLess (nameL f) (nameL g) = false ∧ nameL f ≠ nameL g := by
  have hl : (nameL f).length = (nameL g).length := by rw [nameL_len, nameL_len, hlo]
  obtain ⟨e1, -⟩ := frE_ok hf
  obtain ⟨e2, -⟩ := frE_ok hg
  have hv : val (nameL g) < val (nameL f) := by
    have r1 : reN f.re ≤ 1 := by unfold reN; split <;> omega
    have r2 : reN g.re ≤ 1 := by unfold reN; split <;> omega
    cases hfl : f.lo
    · rw [name_valS f hf hfl, name_valS g hg (by rw [← hlo]; exact hfl)]
      omega
    · obtain ⟨x, y, h1, h2, h3⟩ := name_valL f hf hfl
      obtain ⟨x', y', h1', h2', h3'⟩ := name_valL g hg (by rw [← hlo]; exact hfl)
      rw [h3, h3']
      omega
  refine ⟨?_, fun e => by rw [e] at hv; omega⟩
  rw [less_val _ _ hl (nameL_row f) (nameL_row g)]
  simp; omega
theorem name_at (f : Fr) : (nameL f).getD 12 0 = if f.lo then 49 else 48 := by
  unfold nameL
  cases f.lo
  · simp only [Bool.false_eq_true, if_false]
    rw [List.getD, List.getElem?_append_right (by rw [bitsHead_length]; omega), bitsHead_length]
    rfl
  · simp only [if_true]
    rw [List.getD, List.append_assoc, List.append_assoc, List.getElem?_append_right (by simp [bitsHead_length]), List.length_take, bitsHead_length]
    rfl
theorem names_other (f g : Fr) (hlo : f.lo ≠ g.lo) : nameL f ≠ nameL g ∧ Lib.hasPrefix (nameL f) (nameL g) = false := by
  have hne : (nameL f).getD 12 0 ≠ (nameL g).getD 12 0 := by
    rw [name_at, name_at]
    cases hf : f.lo <;> cases hg : g.lo
    · exact absurd (by rw [hf, hg]) hlo
    · decide
    · decide
    · exact absurd (by rw [hf, hg]) hlo
  refine ⟨fun e => hne (by rw [e]), ?_⟩
  unfold Lib.hasPrefix
  rw [Bool.eq_false_iff]
  intro h
  rw [List.isPrefixOf_iff_prefix] at h
  obtain ⟨t, ht⟩ := h
  apply hne
  rw [← ht]
  have hl := nameL_len g
  rw [List.getD, List.getD, List.getElem?_append_left (by rw [hl]; split <;> omega)]
end Bw
end Go.Proofs.YtfomempleaceiaaDoor
namespace Go.Proofs.YtfomempleaceiaaDoor
namespace Bw
open Bm Cm
theorem putF_begin (p : List UInt8) (c : UInt8) (t : List UInt8) : ∃ u, putF (p ++ c :: t) = putF p ++ c :: u := by
  obtain ⟨t', h⟩ := putF_append (p ++ [c]) t
  have e : p ++ c :: t = p ++ [c] ++ t := by simp
  rw [e, h, putF_snoc]
  unfold putS
  split
  · exact ⟨[otb c] ++ t', by simp⟩
  · exact ⟨t', by simp⟩
theorem bits_begin (f : Fr) : ∃ r s, bitsL f = putF ([48] ++ nameL f ++ r) ++ s := by
  unfold bitsL headL
  split
  · exact ⟨midL f ++ (bitsHead (codeN f) 4 4 ++ ofL f.dt), fastL (headL f) (putF (headL f)) f.dt.length ++ onesL, by unfold headL; simp [List.append_assoc]⟩
  · exact ⟨midL f ++ (bitsHead (codeN f) 4 4 ++ (ofL f.dt ++ sumL 0 (headL f))), onesL, by unfold headL; simp [List.append_assoc]⟩
theorem bits_at (f : Fr) (k : Nat) (hk : k < (nameL f).length) : ∃ u, bitsL f = putF ([48] ++ (nameL f).take k) ++ (nameL f).getD k 0 :: u := by
  obtain ⟨r, s, h⟩ := bits_begin f
  have e : nameL f = (nameL f).take k ++ (nameL f).getD k 0 :: (nameL f).drop (k + 1) := by
    have := List.take_append_drop k (nameL f)
    rw [List.drop_eq_getElem_cons hk] at this
    rw [List.getD, List.getElem?_eq_getElem hk, Option.getD_some]
    exact this.symm
  obtain ⟨u, hu⟩ := putF_begin ([48] ++ (nameL f).take k) ((nameL f).getD k 0) ((nameL f).drop (k + 1) ++ r)
  refine ⟨u ++ s, ?_⟩
  rw [h]
  have e2 : [48] ++ nameL f ++ r = [48] ++ (nameL f).take k ++ (nameL f).getD k 0 :: ((nameL f).drop (k + 1) ++ r) := by
    conv => lhs; rw [e]
    simp [List.append_assoc]
  rw [e2, hu]; simp
theorem name_ahead (f g : Fr) (h : Op.bytesLess (nameL f) (nameL g) = true) : Op.bytesLess (bitsL f) (bitsL g) = true := by
  rcases (less_cases _ _).1 h with ⟨h1, h2⟩ | ⟨k, h1, h2, h3, h4⟩
  · exfalso
    have l1 := nameL_len f
    have l2 := nameL_len g
    by_cases hlo : f.lo = g.lo
    · rw [hlo] at l1
      exact h2 (h1.eq_of_length (l1.trans l2.symm))
    · have a1 := name_at f
      have a2 := name_at g
      have h12 : 12 < (nameL f).length := by rw [l1]; split <;> omega
      obtain ⟨t, ht⟩ := h1
      have : (nameL g).getD 12 0 = (nameL f).getD 12 0 := by
        rw [← ht]; simp [List.getD, List.getElem?_append_left h12]
      rw [a1, a2] at this
      cases hf : f.lo <;> cases hg : g.lo <;> simp [hf, hg] at this hlo
  · obtain ⟨u, hu⟩ := bits_at f k h1
    obtain ⟨v, hv⟩ := bits_at g k h2
    rw [h3] at hu
    refine (less_cases _ _).2 (.inr ⟨(putF ([48] ++ (nameL g).take k)).length, ?_, ?_, ?_, ?_⟩)
    · rw [hu]; simp
    · rw [hv]; simp
    · rw [hu, hv, List.take_left, List.take_left]
    · rw [hu, hv]
      simp only [List.getD, List.getElem?_append_right (Nat.le_refl _), Nat.sub_self, List.getElem?_cons_zero, Option.getD_some]
      simpa [List.getD] using h4
end Bw
end Go.Proofs.YtfomempleaceiaaDoor
namespace Go.Proofs.YtfomempleaceiaaDoor
namespace Bw
open Bm Cm
theorem minL_mem {l : List (List UInt8)} (h : l ≠ []) : minL l ∈ l := (minL_least l h).1
theorem first_wins (fs : List Fr) (hne : fs ≠ []) (h1 : ¬ 1 < (fs.map nameL).count (minL (fs.map nameL))) :
    onlyE (fs.map bitsL) (minL (fs.map bitsL)) = 0 ∧ idxG (fs.map bitsL) (minL (fs.map bitsL)) = idxG (fs.map nameL) (minL (fs.map nameL)) := by
  have hnn : fs.map nameL ≠ [] := by simpa using hne
  have hnb : fs.map bitsL ≠ [] := by simpa using hne
  have hL := minL_least _ hnn
  have hB := minL_least _ hnb
  obtain ⟨f, hf, hfm⟩ := List.mem_map.1 hL.1
  obtain ⟨a, b, hab⟩ := List.append_of_mem hf
  have hc : (a.map nameL).count (nameL f) = 0 ∧ (b.map nameL).count (nameL f) = 0 := by
    rw [← hfm, hab, List.map_append, List.map_cons, List.count_append, List.count_cons_self] at h1
    omega
  have ha : nameL f ∉ a.map nameL := List.count_eq_zero.1 hc.1
  have hb : nameL f ∉ b.map nameL := List.count_eq_zero.1 hc.2
  have ahead : ∀ g, g ∈ a ∨ g ∈ b → Op.bytesLess (bitsL f) (bitsL g) = true := by
    intro g hg
    have hgm : nameL g ∈ fs.map nameL := by
      refine List.mem_map.2 ⟨g, ?_, rfl⟩
      rw [hab]
      rcases hg with hg | hg
      · exact List.mem_append_left _ hg
      · exact List.mem_append_right _ (List.mem_cons_of_mem _ hg)
    have hne' : nameL g ≠ nameL f := by
      intro e
      rcases hg with hg | hg
      · exact ha (by rw [← e]; exact List.mem_map.2 ⟨g, hg, rfl⟩)
      · exact hb (by rw [← e]; exact List.mem_map.2 ⟨g, hg, rfl⟩)
    have h2 := hL.2 _ hgm
    rw [← hfm] at h2
    refine name_ahead f g ?_
    rcases Bool.eq_false_or_eq_true (Op.bytesLess (nameL f) (nameL g)) with h3 | h3
    · exact h3
    · exact absurd (less_tot _ _ h2 h3) hne'
  have hleast : Least (fs.map bitsL) (bitsL f) := by
    refine ⟨List.mem_map.2 ⟨f, hf, rfl⟩, fun r hr => ?_⟩
    obtain ⟨g, hg, rfl⟩ := List.mem_map.1 hr
    rw [hab] at hg
    rcases List.mem_append.1 hg with hg | hg
    · exact less_not (ahead g (.inl hg))
    · rcases List.mem_cons.1 hg with rfl | hg
      · exact less_irr _
      · exact less_not (ahead g (.inr hg))
  have hm : minL (fs.map bitsL) = bitsL f := least_one_only hB hleast
  have ha' : bitsL f ∉ a.map bitsL := by
    intro hx
    obtain ⟨g, hg, e⟩ := List.mem_map.1 hx
    exact less_ne (ahead g (.inl hg)) e.symm
  have hb' : bitsL f ∉ b.map bitsL := by
    intro hx
    obtain ⟨g, hg, e⟩ := List.mem_map.1 hx
    exact less_ne (ahead g (.inr hg)) e.symm
  rw [onlyE_rows hB.1, hm, ← hfm, hab, List.map_append, List.map_cons, List.map_append, List.map_cons]
  refine ⟨?_, ?_⟩
  · rw [List.count_append, List.count_cons_self, List.count_eq_zero.2 ha', List.count_eq_zero.2 hb', if_neg (by omega)]
  · rw [idxG_at _ _ _ ha', idxG_at _ _ _ ha, List.length_map, List.length_map]
theorem minL_rev (l : List (List UInt8)) (h : l ≠ []) : minL l.reverse = minL l := by
  have h1 := minL_least l h
  have h2 := minL_least l.reverse (by simpa using h)
  refine least_one_only (l := l) ⟨?_, fun r hr => h2.2 r (by simpa using hr)⟩ h1
  simpa using h2.1
end Bw
end Go.Proofs.YtfomempleaceiaaDoor
