/- What slices.SortFunc does with lines of one's own: the kit's contract, read for them. -/
import Derived.Test.YtapjiopnjfldhaaDoorRtCmp
import Derived.Test.YtapjiopnjfldhaaDoorRtLinesOf
import Derived.Test.YtapjiopnjfldhaaDoorShelfSrt
namespace Go.Proofs.YtapjiopnjfldhaaDoor
open Go.ChangeShapes Go.WideShapes Go.ChangeAt Go.RowKit
namespace Bw
open Bm
set_option linter.unusedVariables false
theorem cl8 (v : LnR) : v.cl.length = 8 := rfl
theorem flat8 [Inhabited LnR] : ∀ (P : List LnR) (j : Nat), j < P.length * 8 → (lnsC P)[j]? = some ((P.toArray[j / 8]!).cl[j % 8]!) := by
  intro P
  induction P with
  | nil => intro j hj; simp at hj
  | cons p P ih =>
    intro j hj
    have e : lnsC (p :: P) = p.cl ++ lnsC P := by simp [lnsC]
    rw [e]
    by_cases h : j < 8
    · rw [List.getElem?_append_left (by rw [cl8]; exact h)]
      have e1 : j / 8 = 0 := by omega
      have e2 : j % 8 = j := by omega
      rw [e1, e2]
      have e3 : (p :: P).toArray[0]! = p := by simp
      rw [e3, List.getElem?_eq_getElem (by rw [cl8]; exact h), getElem!_pos p.cl j (by rw [cl8]; exact h)]
    · rw [List.getElem?_append_right (by rw [cl8]; omega), cl8, ih (j - 8) (by simp at hj; omega)]
      have e1 : j / 8 = (j - 8) / 8 + 1 := by omega
      have e2 : j % 8 = (j - 8) % 8 := by omega
      rw [e1, e2]
      have e3 : (p :: P).toArray[(j - 8) / 8 + 1]! = P.toArray[(j - 8) / 8]! := by simp
      rw [e3]
theorem own_holds [Inhabited LnR] {w : World} {base g c : Nat} {P : List LnR} (h : w.ownsRow base 49 8 (.slice (some ⟨g, 0, none⟩) P.length c) P.length (lnsC P)) : Go.Sort.HoldsK LnR.cl 8 w g 0 P.toArray := by
  intro j hj
  rw [Go.Sort.size_flatK, List.size_toArray] at hj
  rw [Nat.zero_add, Go.Sort.get_flatK _ _ _ _ (by rw [List.size_toArray]; exact hj)]
  refine ⟨?_, h.frozenAt j⟩
  rw [h.cellAt j hj, flat8 P j hj]
  rfl
theorem sort_grown [Inhabited LnR] (w : World) (g m : Nat) (d : Array LnR) (os : Array Obj) (hg : g < w.heap.size) : w.grownBy (sortWorldK LnR.cl 8 w g 0 m d os) (some g) := by
  have hs : (Go.Sort.putRowK LnR.cl 8 (Go.Sort.ahead w m) g 0 d).heap.size = w.heap.size := by rw [Go.Sort.size_putRowK]; rfl
  unfold sortWorldK
  refine ⟨rfl, rfl, rfl, by rw [Go.Sort.size_grow, hs]; omega, fun k hk hne => ?_⟩
  rw [Go.Sort.heap_grow_old _ _ (by rw [hs]; exact hk)]
  unfold Go.Sort.putRowK Go.Sort.putRow Go.Sort.mapBlock
  have hne' : g ≠ k := fun e => hne (by rw [e])
  simp [Array.getElem?_modify, hne', Go.Sort.ahead]
theorem cl_one (v : LnR) : ∀ u ∈ v.cl, u.oneCell' = true := by
  intro u hu
  unfold LnR.cl at hu
  simp only [List.mem_cons, List.not_mem_nil, or_false] at hu
  rcases hu with rfl | rfl | rfl | rfl | rfl | rfl | rfl | rfl <;> rfl
theorem swoL : Go.Sort.SWO (ltOf cmpE) where
  irrefl x := by rw [cmpE_lt]; simp
  trans x y z h1 h2 := by rw [cmpE_lt] at *; simp at *; omega
  ntrans x y z h1 h2 := by rw [cmpE_lt] at *; simp at *; omega
theorem enter_cmpL : ∀ args w, (callFunc 65 args).run Tryd.prog w = .ok (.enter 65 args) w := enters_of Tryd.func65 (by kernel_rfl) rfl
theorem sorted_lns [Inhabited LnR] {w : World} {base g c : Nat} {P : List LnR} {dt : List UInt8} (h : OwnLns w base (.slice (some ⟨g, 0, none⟩) P.length c) P dt) (hc : P.length ≤ c ∧ c ≤ maxLen) (hg : g < w.heap.size) (m : Nat) (d : Array LnR) (os : Array Obj) (hs : d.size = P.length) (hp : d.toList.Perm P) : IsLns (sortWorldK LnR.cl 8 w g 0 m d os) (some ⟨g, 0, none⟩) P.length c d.toList dt := by
  have hH := holdsK_sortWorldK_c LnR.cl 8 w g 0 P.toArray d m os (own_holds h.row) hg (by rw [hs, List.size_toArray])
  have hgr := sort_grown w g m d os hg
  have hl : d.toList.length = P.length := by rw [Array.length_toList, hs]
  refine ⟨hl, hc.1, hc.2, fun e => (by cases e), fun x hx i hi => ?_, fun i hi => ?_⟩
  · cases hx
    have hi' : i < d.size := by rw [hs]; exact hi
    have e : d.toList.getD i noLn = d[i]! := by
      rw [getL (by rw [hl]; exact hi), getElem!_pos d i hi', Array.getElem_toList]
    rw [e]
    have hcs : ∀ q, q < 8 → (sortWorldK LnR.cl 8 w g 0 m d os).cell? ⟨g, i * 8 + q, none⟩ = some ((LnR.cl d[i]!)[q]!) := fun q hq => by
      have := (hH.cell hi' hq).1
      rwa [Nat.zero_add] at this
    have ea : (Addr.add ⟨g, 0, none⟩ (i * 8)) = ⟨g, i * 8, none⟩ := by rw [Addr.add_lit, Nat.zero_add]
    rw [ea]
    exact ⟨hcs 0 (by omega), hcs 1 (by omega), hcs 2 (by omega), hcs 3 (by omega), hcs 4 (by omega), hcs 5 (by omega), hcs 6 (by omega), hcs 7 (by omega)⟩
  · have hm : d.toList.getD i noLn ∈ P := by
      rw [getL (by rw [hl]; exact hi)]
      exact hp.mem_iff.1 (List.getElem_mem _)
    exact bytes_grown (h.bytes _ hm) hgr (fun h0 x hx => h.apart _ hm h0 x hx)
set_option maxHeartbeats 2000000 in
theorem sortLn : SortLn := by
  haveI : Inhabited LnR := ⟨noLn⟩
  intro v P dt base w hO hP
  obtain ⟨a, c, rfl⟩ := own_slice0 hO.row
  by_cases h0 : P.length = 0
  · have hnil : P = [] := List.eq_nil_of_length_eq_zero h0
    subst hnil
    refine (AnyF.slices_SortFunc_none Tryd.laysSrt a c _ w).mono ?_
    rintro e w' ⟨rfl, rfl⟩
    exact ⟨rfl, a, c, [], rfl, lns_of hO.row rfl hO.bytes, List.Perm.refl _, List.Pairwise.nil, Below.refl _ _⟩
  · obtain ⟨g, c', hv, hgb, hg⟩ := own_slice hO.row (by omega)
    cases hv
    have hc : P.length ≤ c ∧ c ≤ maxLen := by
      rcases hO.row.2 with ⟨h1, h2⟩ | ⟨g', cap', cur, h1, h2, h3, h4, h5, h6⟩
      · cases h1
      · cases h1; exact ⟨h4, h5⟩
    have hH := own_holds hO.row
    have hcmp : CmpLays Tryd.prog 65 #[] LnR.cl 8 cmpE g 0 P.toArray.size w := fun _ _ _ _ x y => cmpL_any x y _
    have hcon := AnyQ.slices_SortFunc Tryd.laysSrt 8 Tryd.isAgg49 Tryd.sizeOf49 LnR.cl cl8 cl_one cmpE swoL 65 #[] g 0 c P.toArray w enter_cmpL hcmp hH hg (by rw [List.size_toArray]; omega)
    rw [List.size_toArray] at hcon
    refine hcon.mono ?_
    rintro e w' ⟨rfl, d, n, os, ⟨hs, -, hp⟩, hsort, rfl⟩
    have hs : d.size = P.length := by rw [hs]; exact List.size_toArray
    have hp' : d.toList.Perm P := by
      have e1 : d.extract 0 P.length = d := by rw [← hs]; simp
      have e2 : P.toArray.extract 0 P.length = P.toArray := by
        have := Array.extract_size (xs := P.toArray)
        rwa [List.size_toArray] at this
      rw [e1, e2] at hp
      simpa using hp
    have hb := Below.grown (Below.refl base w) (sort_grown w g n d os hg) (by omega) (fun q hq => by cases hq; exact hgb)
    refine ⟨rfl, some ⟨g, 0, none⟩, c, d.toList, rfl, sorted_lns hO hc hg n d os hs hp', hp', ?_, hb⟩
    rw [List.pairwise_iff_getElem]
    intro i j hi hj hij
    rw [Array.length_toList] at hi hj
    have := hsort i j (Nat.zero_le _) hij (by rw [← hs]; exact hj)
    rw [cmpE_lt, getElem!_pos d i hi, getElem!_pos d j hj] at this
    simp only [Array.getElem_toList]
    exact of_decide_eq_false this
end Bw
end Go.Proofs.YtapjiopnjfldhaaDoor
