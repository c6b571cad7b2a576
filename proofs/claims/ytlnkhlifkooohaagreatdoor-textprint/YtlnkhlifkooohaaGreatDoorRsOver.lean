/- What the document's own OverOf answers. -/
import Derived.Test.YtlnkhlifkooohaaGreatDoorSgOver
import Derived.Test.YtlnkhlifkooohaaGreatDoorRsPlaces
import Derived.Test.YtlnkhlifkooohaaGreatDoorNumRow
import Derived.Shelf.Abstract
namespace Go.Proofs.YtlnkhlifkooohaaGreatDoor
open Go.ChangeShapes Go.WideShapes Go.ChangeAt Go.RowKit Go.Sort
namespace Bw
open Sm
theorem NumsAt.kept {w w' : World} {g off : Nat} {xs : List Int} (h : NumsAt w g off xs) (hb : Below w.heap.size w w') : NumsAt w' g off xs := fun i hi => cell_kept hb (h i hi)
theorem nums_own {w : World} {base g n c : Nat} {xs : List Int} (h : w.ownsRow base 3 1 (.slice (some ⟨g, 0, none⟩) n c) n (pnC xs)) : NumsAt w g 0 xs := by
  intro i hi
  have hl : (pnC xs).length = n * 1 := h.1
  have hn : xs.length = n := by simpa [pnC] using hl
  rw [Nat.zero_add, h.cellAt i (by omega)]
  simp [pnC, hi]
theorem any_hitI {l : List Int} (p : Int → Bool) {i : Nat} (h : i < l.length) (hp : p (l.getD i 0) = true) : l.any p = true := by
  rw [List.any_eq_true]
  refine ⟨_, ?_, hp⟩
  simp only [List.getD, List.getElem?_eq_getElem h, Option.getD_some]
  exact List.getElem_mem h
theorem any_noI {l : List Int} (p : Int → Bool) (hp : ∀ j, j < l.length → p (l.getD j 0) = false) : l.any p = false := by
  rw [List.any_eq_false]
  intro x hx
  obtain ⟨i, hi, rfl⟩ := List.mem_iff_getElem.1 hx
  have := hp i hi
  simp only [List.getD, List.getElem?_eq_getElem hi, Option.getD_some] at this
  simp [this]
set_option maxHeartbeats 2000000 in
set_option maxRecDepth 100000 in
theorem indexFI_any (g : Nat) (lb : Array Value) (eg : ∀ args w, (callFunc g args).run Tryz.prog w = .ok (.enter g args) w) (p : Int → Bool) (b n c : Nat) (l : List Int) (w : World) (hl : l.length = n) (hn : n ≤ 1000) (hF : NumsAt w b 0 l)
    (hp : ∀ W x, Below w.heap.size w W → Calls Tryz.prog g (#[.int .i64 x] ++ lb) W fun e w' => e = .returned (.bool (p x)) ∧ Below W.heap.size W w') :
    Calls Tryz.prog 138 #[.slice (some ⟨b, 0, none⟩) n c, .func (.func g) #[] lb] w fun e w' => ∃ r : Int, e = .returned (.int .i64 r) ∧ decide (0 ≤ r) = l.any p ∧ Below w.heap.size w w' := by
  have HF := Hid.mk hF
  have HP := Hid.mk hp
  have HL := Hid.mk hl
  clear hF hp hl
  go_enter Tryz.func138, Tryz.ntmps138
  go_wp2_with fail
  go_loopw [8] (fun i wr => ∃ k : Nat, k ≤ n ∧ i = .int .i64 k ∧ Hid (∀ j, j < k → p (l.getD j 0) = false) ∧ Hid (Below w.heap.size w wr)) (fun i _ => n - (intOf i).toNat)
  case atStart => exact ⟨0, Nat.zero_le _, rfl, Hid.mk (fun j hj => absurd hj (Nat.not_lt_zero _)), Hid.mk (Below.refl _ _)⟩
  case round =>
    obtain ⟨k, hk, rfl, HA, HB⟩ := hrel
    by_cases hlt : k < n
    · have hlt' : (k : Int) < (n : Int) := by omega
      have hc := (HF.out.kept HB.out) k (by rw [HL.out]; exact hlt)
      rw [Nat.zero_add] at hc
      obtain ⟨y, hy⟩ : ∃ y, y = l.getD k 0 := ⟨_, rfl⟩
      rw [← hy] at hc
      have hcall := HP.out wr y HB.out
      have HYY := Hid.mk hy
      clear hy
      cases hq : p y with
      | true =>
        rw [hq] at hcall
        have HC := Hid.mk hcall
        have HQ := Hid.mk hq
        clear hcall hq
        go_wp2_with (go_at_fn g; refine HC.out.mono ?_; rintro e w1 ⟨rfl, hb1⟩)
        have HB1 := Hid.mk (bl2 HB.out hb1)
        clear hb1
        go_ret
        refine ⟨_, rfl, ?_, HB1.out⟩
        rw [any_hitI p (by rw [HL.out]; exact hlt) (by rw [← HYY.out]; exact HQ.out)]
        simp
      | false =>
        rw [hq] at hcall
        have HC := Hid.mk hcall
        have HQ := Hid.mk hq
        clear hcall hq
        go_wp2_with (go_at_fn g; refine HC.out.mono ?_; rintro e w1 ⟨rfl, hb1⟩)
        have HB1 := Hid.mk (bl2 HB.out hb1)
        clear hb1
        go_roundw
        case rel =>
          refine ⟨k + 1, by omega, by go_num, Hid.mk fun j hj => ?_, HB1⟩
          by_cases e : j = k
          · subst e; rw [← HYY.out]; exact HQ.out
          · exact HA.out j (by omega)
        case measure => simp [intOf]; omega
    · have e : k = n := by omega
      subst e
      go_wp2_with fail
      go_ret
      refine ⟨-1, rfl, ?_, HB.out⟩
      rw [any_noI p (fun j hj => HA.out j (by rw [HL.out] at hj; exact hj))]
      rfl
set_option maxHeartbeats 2000000 in
theorem containsFI_any (g : Nat) (lb : Array Value) (eg : ∀ args w, (callFunc g args).run Tryz.prog w = .ok (.enter g args) w) (p : Int → Bool) (b n c : Nat) (l : List Int) (w : World) (hl : l.length = n) (hn : n ≤ 1000) (hF : NumsAt w b 0 l)
    (hp : ∀ W x, Below w.heap.size w W → Calls Tryz.prog g (#[.int .i64 x] ++ lb) W fun e w' => e = .returned (.bool (p x)) ∧ Below W.heap.size W w') :
    Calls Tryz.prog 83 #[.slice (some ⟨b, 0, none⟩) n c, .func (.func g) #[] lb] w fun e w' => e = .returned (.bool (l.any p)) ∧ Below w.heap.size w w' := by
  have HI := Hid.mk (indexFI_any g lb eg p b n c l w hl hn hF hp)
  clear eg hF hp
  go_enter Tryz.func83, Tryz.ntmps83
  go_wp2_with fail
  refine HI.out.mono ?_
  rintro e w1 ⟨r, rfl, hr, hb1⟩
  have HR := Hid.mk hr
  clear hr
  go_wp2_with fail
  go_ret
  exact ⟨by rw [← HR.out]; rfl, hb1⟩
set_option maxHeartbeats 2000000 in
theorem over1_any (x : Int) (q b n : Nat) (ys : List Int) (w : World) (hl : ys.length = n) (hn : n ≤ 1000) (hq : w.cell? ⟨q, 0, none⟩ = some (.slice (some ⟨b, 0, none⟩) n n)) (hF : NumsAt w b 0 ys) :
    Calls Tryz.prog 84 (#[.int .i64 x] ++ #[.pointer (some ⟨q, 0, none⟩)]) w fun e w' => e = .returned (.bool (decide (x ∈ ys))) ∧ Below w.heap.size w w' := by
  have HC := Hid.mk (containsN b 0 n n ys x w hl hn hF)
  clear hF hl
  generalize decide (x ∈ ys) = r at *
  show Calls Tryz.prog 84 #[.int .i64 x, .pointer (some ⟨q, 0, none⟩)] w _
  go_enter Tryz.func84, Tryz.ntmps84
  go_wp2_with fail
  refine HC.out.mono ?_
  rintro e w1 ⟨rfl, hw1⟩
  obtain rfl := hw1.symm
  go_wp2_with fail
  go_ret
  exact ⟨rfl, Below.refl _ _⟩
theorem ov_any (bk : Bool) (st sz : Nat) (bk' : Bool) (st' sz' : Nat) : ((plsL bk st sz sz).any fun x => decide (x ∈ plsL bk' st' sz' sz')) = ovN bk st sz bk' st' sz' := by
  rw [Bool.eq_iff_iff]
  constructor
  · intro h
    obtain ⟨x, hx, hy⟩ := List.any_eq_true.1 h
    have hy := of_decide_eq_true hy
    unfold plsL at hx hy
    obtain ⟨i, hi, rfl⟩ := List.mem_map.1 hx
    obtain ⟨j, hj, e⟩ := List.mem_map.1 hy
    exact ovN_yes (List.mem_range.1 hi) (List.mem_range.1 hj) (by omega)
  · intro h
    unfold ovN at h
    obtain ⟨j, hj, h2⟩ := List.any_eq_true.1 h
    obtain ⟨i, hi, h3⟩ := List.any_eq_true.1 h2
    rw [List.any_eq_true]
    refine ⟨(plN bk st sz i : Int), List.mem_map.2 ⟨i, hi, rfl⟩, decide_eq_true (List.mem_map.2 ⟨j, hj, ?_⟩)⟩
    rw [eq_of_beq h3]
def slC (g n : Nat) : Obj := .cells #[.slice (some ⟨g, 0, none⟩) n n] 78
theorem slC_B (w : World) (g n : Nat) : Below w.heap.size w (w.alloc (slC g n)) := (Below.refl _ _).alloc (Nat.le_refl _) _
theorem slC_at (w : World) (g n : Nat) : (w.alloc (slC g n)).cell? ⟨w.heap.size, 0, none⟩ = some (.slice (some ⟨g, 0, none⟩) n n) := cell_of_row _ _ 0 _ _ _ (heap_alloc_new w (slC g n))
set_option maxHeartbeats 8000000 in
set_option maxRecDepth 100000 in
theorem overOf_any (s t : Sig) (st sz st' sz' : Nat) (w : World) (hst : s.st = st) (hsz : s.sz = sz) (hs : st ≤ 1000) (h1 : 1 ≤ sz) (h40 : sz ≤ 40) (hst' : t.st = st') (hsz' : t.sz = sz') (hs' : st' ≤ 1000) (h1' : 1 ≤ sz') (h40' : sz' ≤ 40) :
    Calls Tryz.prog 34 #[sgV s, sgV t] w fun e w' => e = .returned (.bool (ovN s.bk st sz t.bk st' sz')) ∧ Below w.heap.size w w' := by
  have HB := Hid.mk (oW0_B w s t)
  have HG := Hid.mk (oW0_s w s t)
  have HP := Hid.mk (fun W => placesOf_any s st sz W hst hsz hs h1 h40)
  have HP' := Hid.mk (fun W => placesOf_any t st' sz' W hst' hsz' hs' h1' h40')
  have HOV := Hid.mk (ov_any s.bk st sz t.bk st' sz')
  have HLA := Hid.mk (plsL_length s.bk st sz sz)
  have HLB := Hid.mk (plsL_length t.bk st' sz' sz')
  have eg : ∀ args w, (callFunc 84 args).run Tryz.prog w = .ok (.enter 84 args) w := enters_of Tryz.func84 (by kernel_rfl) rfl
  have HEG := Hid.mk eg
  obtain ⟨nm, sta, sza, bk, sg, mu, di, ad, ky⟩ := s
  obtain ⟨nm', sta', sza', bk', sg', mu', di', ad', ky'⟩ := t
  unfold oW0 sgC at HB HG
  unfold sgV at HP HP' ⊢
  simp only at HB HG HP HP' HOV HLA HLB ⊢
  generalize plsL bk st sz sz = xs at *
  generalize plsL bk' st' sz' sz' = ys at *
  clear hst hsz hs hst' hsz' hs' eg
  go_enter Tryz.func34, Tryz.ntmps34
  go_wp2_with fail
  refine (HP'.out _).mono ?_
  rintro e w1 ⟨g1, rfl, hg1, hown1, hb1⟩
  have HB1 := Hid.mk (bl2 HB.out hb1)
  have HG1 := Hid.mk (HG.out.kept hb1)
  have HN1 := Hid.mk (nums_own hown1)
  have HA := Hid.mk (slC_B w1 g1 sz')
  have HC := Hid.mk (slC_at w1 g1 sz')
  have HG2 := Hid.mk (HG1.out.kept HA.out)
  have HN2 := Hid.mk (HN1.out.kept HA.out)
  unfold slC at HA HC HG2 HN2
  obtain ⟨k0, k1, k2, k3, k4, k5, k6, k7, k8⟩ := HG2.out
  simp only at k0 k1 k2 k3 k4 k5 k6 k7 k8
  clear hown1 hb1 hg1 HB HG HP'
  go_wp2_with fail
  refine (HP.out _).mono ?_
  rintro e w2 ⟨g2, rfl, hg2, hown2, hb2⟩
  have HB2 := Hid.mk (bl2 HB1.out (bl2 HA.out hb2))
  have HX := Hid.mk (nums_own hown2)
  have HY := Hid.mk (HN2.out.kept hb2)
  have hcc := cell_kept hb2 HC.out
  have HCF := Hid.mk (containsFI_any 84 #[.pointer (some ⟨w1.heap.size, 0, none⟩)] HEG.out (fun x => decide (x ∈ ys)) g2 sz sz xs w2 HLA.out (by omega) HX.out (fun W x hb => over1_any x w1.heap.size g1 sz' ys W HLB.out (by omega) (cell_kept hb hcc) (HY.out.kept hb)))
  clear hown2 hb2 hcc hg2 HP k0 k1 k2 k3 k4 k5 k6 k7 k8
  go_wp2_with fail
  refine HCF.out.mono ?_
  rintro e w3 ⟨rfl, hb3⟩
  have HB3 := Hid.mk (bl2 HB2.out hb3)
  clear hb3
  rw [HOV.out]
  go_wp2_with fail
  go_ret
  exact ⟨rfl, HB3.out⟩
end Bw
end Go.Proofs.YtlnkhlifkooohaaGreatDoor
