/- What signal.Over answers. -/
import Derived.Test.YtlnkhlifkooohaaGreatDoorSgSpan
import Derived.Deep.WholeRow
namespace Go.Proofs.YtlnkhlifkooohaaGreatDoor
open Go.ChangeShapes Go.WideShapes Go.ChangeAt Go.RowKit Go.Sort
namespace Bw
open Sm
theorem info_taken : (Tryz.prog.info? 213).map (fun i => (i.zero, i.size)) = some (some (.agg (Array.replicate 512 (.bool false))), 512) := by kernel_rfl
/-- a variable of 512 bools -/
structure TkAt (w : World) (g : Nat) (cur : List Bool) : Prop where
  row : w.heap[g]? = some (.cells (cur.map Value.bool).toArray 213 (0, 0))
  len : cur.length = 512
theorem TkAt.lt {w : World} {g : Nat} {cur : List Bool} (h : TkAt w g cur) : g < w.heap.size := by
  rcases Nat.lt_or_ge g w.heap.size with h' | h'
  · exact h'
  · have := h.row; rw [Array.getElem?_eq_none h'] at this; cases this
theorem TkAt.kept {w w' : World} {g : Nat} {cur : List Bool} (h : TkAt w g cur) (hb : Below w.heap.size w w') : TkAt w' g cur := ⟨by rw [hb.block g h.lt]; exact h.row, h.len⟩
theorem TkAt.cell {w : World} {g : Nat} {cur : List Bool} (h : TkAt w g cur) {p : Nat} (hp : p < 512) : w.cell? ⟨g, p, none⟩ = some (.bool (cur.getD p false)) := by
  have hl := h.len
  rw [cell_of_row w g p _ _ _ h.row]
  simp [List.getD, hl, hp]
theorem TkAt.free {w : World} {g : Nat} {cur : List Bool} (h : TkAt w g cur) (p : Nat) : w.frozen? ⟨g, p, none⟩ = false := frozen_of_row w g p _ _ h.row
theorem TkAt.set {w : World} {g : Nat} {cur : List Bool} (h : TkAt w g cur) (p : Nat) (b : Bool) : TkAt (w.setCell ⟨g, p, none⟩ (.bool b)) g (cur.set p b) := by
  have h1 := heap_setCell_same w g p _ _ (.bool b) h.row
  refine ⟨?_, by rw [List.length_set]; exact h.len⟩
  rw [h1, List.map_set, List.setIfInBounds_toArray]
theorem TkAt.new (w : World) : TkAt (w.alloc (.cells (Array.replicate 512 (.bool false)) 213)) w.heap.size (List.replicate 512 false) := by
  refine ⟨?_, List.length_replicate⟩
  rw [List.map_replicate, List.toArray_replicate]
  exact heap_alloc_new w _
theorem taken_no (p : Nat) : (List.replicate 512 false).getD p false = false := by
  rw [List.getD, List.getElem?_replicate]
  split <;> rfl
/-- have they a bit in common? -/
def ovN (bk : Bool) (st sz : Nat) (bk' : Bool) (st' sz' : Nat) : Bool := (List.range sz').any fun j => (List.range sz).any fun i => plN bk st sz i == plN bk' st' sz' j
theorem ovN_yes {bk : Bool} {st sz : Nat} {bk' : Bool} {st' sz' : Nat} {i j : Nat} (hi : i < sz) (hj : j < sz') (h : plN bk st sz i = plN bk' st' sz' j) : ovN bk st sz bk' st' sz' = true := by
  unfold ovN
  rw [List.any_eq_true]
  exact ⟨j, List.mem_range.2 hj, List.any_eq_true.2 ⟨i, List.mem_range.2 hi, beq_iff_eq.2 h⟩⟩
theorem ovN_no {bk : Bool} {st sz : Nat} {bk' : Bool} {st' sz' : Nat} (h : ∀ j, j < sz' → ∀ i, i < sz → plN bk st sz i ≠ plN bk' st' sz' j) : ovN bk st sz bk' st' sz' = false := by
  unfold ovN
  rw [List.any_eq_false]
  intro j hj
  rw [Bool.not_eq_true, List.any_eq_false]
  intro i hi
  simpa using h j (List.mem_range.1 hj) i (List.mem_range.1 hi)
theorem ovN_apart {bk : Bool} {st sz : Nat} {bk' : Bool} {st' sz' : Nat} (h : ovN bk st sz bk' st' sz' = false) : ∀ j, j < sz' → ∀ i, i < sz → plN bk st sz i ≠ plN bk' st' sz' j := by
  intro j hj i hi e
  rw [ovN_yes hi hj e] at h
  cases h
def oW0 (w : World) (s t : Sig) : World := (w.alloc (sgC s)).alloc (sgC t)
theorem oW0_B (w : World) (s t : Sig) : Below w.heap.size w (oW0 w s t) := ((Below.refl _ _).alloc (Nat.le_refl _) _).alloc (by simp) _
theorem oW0_s (w : World) (s t : Sig) : SgAt (oW0 w s t) w.heap.size s := (SgAt.box w s).kept ((Below.refl _ _).alloc (Nat.le_refl _) _)
theorem oW0_t (w : World) (s t : Sig) : SgAt (oW0 w s t) (w.heap.size + 1) t := by
  have := SgAt.box (w.alloc (sgC s)) t
  rw [show (w.alloc (sgC s)).heap.size = w.heap.size + 1 by simp] at this
  exact this
set_option maxHeartbeats 8000000 in
theorem over_bad (s t : Sig) (w : World) (h : wfS s) (h' : wfS t) (hE : chkS s 64 ≠ 0 ∨ chkS t 64 ≠ 0) :
    Calls Tryz.prog 156 #[sgV s, sgV t] w fun e w' => e = .returned (.bool false) ∧ Below w.heap.size w w' := by
  have HB := Hid.mk (oW0_B w s t)
  have HT := Hid.mk (oW0_t w s t)
  have hC := fun W => scheck_any s 64 W h
  have hD := fun W => scheck_any t 64 W h'
  generalize chkS s 64 = E at *
  generalize chkS t 64 = F at *
  obtain ⟨nm, st, sz, bk, sg, mu, di, ad, ky⟩ := s
  obtain ⟨nm', st', sz', bk', sg', mu', di', ad', ky'⟩ := t
  unfold oW0 sgC at HB HT
  unfold sgV at hC hD ⊢
  simp only at HB HT hC hD ⊢
  clear h h'
  by_cases h0 : E = 0
  · have hF : (F != 0) = true := by
      rcases hE with h | h
      · exact absurd h0 h
      · simpa using h
    subst h0
    clear hE
    go_enter Tryz.func156, Tryz.ntmps156
    go_wp2_with fail
    refine (hC _).mono ?_
    rintro e w1 ⟨rfl, hb1⟩
    have HB1 := Hid.mk (bl2 HB.out hb1)
    obtain ⟨k0, k1, k2, k3, k4, k5, k6, k7, k8⟩ := HT.out.kept hb1
    simp only at k0 k1 k2 k3 k4 k5 k6 k7 k8
    clear hb1
    go_wp2_with fail
    refine (hD _).mono ?_
    rintro e w2 ⟨rfl, hb2⟩
    have HB2 := Hid.mk (bl2 HB1.out hb2)
    clear hb2
    go_wp2_with fail
    go_ret
    exact ⟨rfl, HB2.out⟩
  · have hF : (E != 0) = true := by simpa using h0
    clear hE hD
    go_enter Tryz.func156, Tryz.ntmps156
    go_wp2_with fail
    refine (hC _).mono ?_
    rintro e w1 ⟨rfl, hb1⟩
    have HB1 := Hid.mk (bl2 HB.out hb1)
    clear hb1
    go_wp2_with fail
    go_ret
    exact ⟨rfl, HB1.out⟩
set_option maxHeartbeats 16000000 in
set_option maxRecDepth 100000 in
theorem over_ok (s t : Sig) (st sz st' sz' : Nat) (w : World) (h : wfS s) (h' : wfS t) (hE : chkS s 64 = 0) (hF : chkS t 64 = 0) (hR : Rt s st sz 64) (hR' : Rt t st' sz' 64) :
    Calls Tryz.prog 156 #[sgV s, sgV t] w fun e w' => e = .returned (.bool (ovN s.bk st sz t.bk st' sz')) ∧ Below w.heap.size w w' := by
  have HB := Hid.mk (oW0_B w s t)
  have HG := Hid.mk (oW0_s w s t)
  have HT := Hid.mk (oW0_t w s t)
  have hC := fun W => scheck_any s 64 W h
  have hD := fun W => scheck_any t 64 W h'
  rw [hE] at hC
  rw [hF] at hD
  have hst := hR.hst
  have hsz := hR.hsz
  have hst' := hR'.hst
  have hsz' := hR'.hsz
  have h1 := hR.s1
  have h40 := hR.s40
  have h1' := hR'.s1
  have h40' := hR'.s40
  have hstb := hR.st_lt
  have hstb' := hR'.st_lt
  have HP := Hid.mk (fun (k : Nat) (hk : k < sz) W => by
    have := place_any s (k : Int) W (by rw [hst]; omega) (by rw [hsz]; omega) (by rw [hsz]; omega)
    rw [hR.pl hk] at this
    exact this)
  have HPL := Hid.mk (fun (k : Nat) (hk : k < sz) => hR.pl_lt hk)
  have HP' := Hid.mk (fun (k : Nat) (hk : k < sz') W => by
    have := place_any t (k : Int) W (by rw [hst']; omega) (by rw [hsz']; omega) (by rw [hsz']; omega)
    rw [hR'.pl hk] at this
    exact this)
  have HPL' := Hid.mk (fun (k : Nat) (hk : k < sz') => hR'.pl_lt hk)
  obtain ⟨nm, sta, sza, bk, sg, mu, di, ad, ky⟩ := s
  obtain ⟨nm', sta', sza', bk', sg', mu', di', ad', ky'⟩ := t
  simp only at hst hsz hst' hsz'
  subst hst
  subst hsz
  subst hst'
  subst hsz'
  unfold oW0 sgC at HB HG HT
  unfold sgV at hC hD HP HP' ⊢
  simp only at HB HG HT hC hD HP HP' HPL HPL' ⊢
  have a1 : (1 : Int) ≤ (sz : Int) := by omega
  have a2 : (sz : Int) ≤ 40 := by omega
  have a1' : (1 : Int) ≤ (sz' : Int) := by omega
  have a2' : (sz' : Int) ≤ 40 := by omega
  have hv := (zero_of_info info_taken).1
  clear h h' hE hF hR hR' hstb hstb'
  go_enter Tryz.func156, Tryz.ntmps156
  go_wp2_with fail
  refine (hC _).mono ?_
  rintro e w1 ⟨rfl, hb1⟩
  have HB1 := Hid.mk (bl2 HB.out hb1)
  have HG1 := Hid.mk (HG.out.kept hb1)
  have HT1 := Hid.mk (HT.out.kept hb1)
  obtain ⟨k0, k1, k2, k3, k4, k5, k6, k7, k8⟩ := HT1.out
  simp only at k0 k1 k2 k3 k4 k5 k6 k7 k8
  clear hb1 HB HG HT
  go_wp2_with fail
  refine (hD _).mono ?_
  rintro e w2 ⟨rfl, hb2⟩
  have HB2 := Hid.mk (bl2 HB1.out hb2)
  have HG2 := Hid.mk (HG1.out.kept hb2)
  have HT2 := Hid.mk (HT1.out.kept hb2)
  have HA := Hid.mk (show Below w2.heap.size w2 (w2.alloc (.cells (Array.replicate 512 (.bool false)) 213)) from (Below.refl _ _).alloc (Nat.le_refl _) _)
  have HK := Hid.mk (TkAt.new w2)
  have c2 := (HG2.out.kept HA.out).c2
  simp only at c2
  clear hb2 HB1 HG1 HT1 k0 k1 k2 k3 k4 k5 k6 k7 k8 hC hD
  go_wp2_with fail
  go_loopw [18] (fun i wr => ∃ (k : Nat) (cur : List Bool), k ≤ sz ∧ i = .int .i64 k ∧ Hid (TkAt wr w2.heap.size cur) ∧ Hid (∀ p, p < 512 → (cur.getD p false = true ↔ ∃ i, i < k ∧ plN bk st sz i = p)) ∧ Hid (Below w2.heap.size w2 wr)) (fun i _ => sz - (intOf i).toNat)
  case atStart => exact ⟨0, _, Nat.zero_le _, rfl, HK, Hid.mk (fun p hp => ⟨fun h => (by rw [taken_no p] at h; cases h), fun ⟨i, h, _⟩ => absurd h (Nat.not_lt_zero _)⟩), HA⟩
  case round =>
    clear HK HA c2
    obtain ⟨k, cur, hk, rfl, HKk, HCk, HBk⟩ := hrel
    by_cases hlt : k < sz
    · have hlt' : (k : Int) < (sz : Int) := by omega
      obtain ⟨c0, c1, c2, c3, c4, c5, c6, c7, c8⟩ := HG2.out.kept HBk.out
      simp only at c0 c1 c2 c3 c4 c5 c6 c7 c8
      have hPk := HP.out k hlt
      have hpl := HPL.out k hlt
      have HPE := Hid.mk (show plN bk st sz k = plN bk st sz k from rfl)
      generalize hpd : plN bk st sz k = p at *
      have HPD := Hid.mk hpd
      have hpl' : (p : Int) < 512 := by omega
      clear hpd HPE
      go_wp2_with fail
      refine (hPk _).mono ?_
      rintro e wq ⟨rfl, hbq⟩
      have HKq := Hid.mk (HKk.out.kept hbq)
      have HBq := Hid.mk (bl2 HBk.out hbq)
      have hc3 := HKq.out.cell (p := p) (by omega)
      have hf3 := HKq.out.free p
      clear hbq c0 c1 c2 c3 c4 c5 c6 c7 c8 hPk
      go_wp2_with fail
      go_roundw
      case rel => exact ⟨k + 1, cur.set p true, by omega, by go_num, Hid.mk (HKq.out.set p true), Hid.mk (fun q hq => by
        have hcl := HKq.out.len
        by_cases hqp : q = p
        · subst hqp
          simp only [List.getD, List.getElem?_set_self (show q < cur.length by omega), Option.getD_some, true_iff]
          exact ⟨k, by omega, HPD.out⟩
        · have e1 : (cur.set p true).getD q false = cur.getD q false := by simp only [List.getD, List.getElem?_set_ne (fun e => hqp e.symm)]
          rw [e1, HCk.out q hq]
          exact ⟨fun ⟨i, h1, h2⟩ => ⟨i, by omega, h2⟩, fun ⟨i, h1, h2⟩ => ⟨i, by
            rcases Nat.lt_or_ge i k with h | h
            · exact h
            · have : i = k := by omega
              subst this
              exact absurd (h2.symm.trans HPD.out) hqp, h2⟩⟩), Hid.mk (HBq.out.setCell (p := ⟨w2.heap.size, p, none⟩) (Nat.le_refl _) _)⟩
      case measure => simp [intOf]; omega
    · have e : k = sz := by omega
      subst e
      have HG3 := Hid.mk (HT2.out.kept HBk.out)
      have c2 := HG3.out.c2
      simp only at c2
      obtain ⟨wz, hwz⟩ : ∃ wz, wz = wr := ⟨_, rfl⟩
      rw [← hwz] at HKk HBk HG3 c2 ⊢
      clear hwz HG2 HT2
      go_wp2_with fail
      go_loopw [28] (fun i wr => ∃ (j : Nat), j ≤ sz' ∧ i = .int .i64 j ∧ Hid (∀ q, q < j → cur.getD (plN bk' st' sz' q) false = false) ∧ Hid (Below wz.heap.size wz wr)) (fun i _ => sz' - (intOf i).toNat)
      case atStart => exact ⟨0, Nat.zero_le _, rfl, Hid.mk (fun q hq => absurd hq (Nat.not_lt_zero _)), Hid.mk (Below.refl _ _)⟩
      case round =>
        clear c2
        obtain ⟨j, hj, rfl, HJ, HBj⟩ := hrel
        by_cases hlt2 : j < sz'
        · have hlt2' : (j : Int) < (sz' : Int) := by omega
          obtain ⟨c0, c1, c2, c3, c4, c5, c6, c7, c8⟩ := HG3.out.kept HBj.out
          simp only at c0 c1 c2 c3 c4 c5 c6 c7 c8
          have hPj := HP'.out j hlt2
          have hpl := HPL'.out j hlt2
          generalize hpd : plN bk' st' sz' j = p at *
          have HPD := Hid.mk hpd
          have hpl' : (p : Int) < 512 := by omega
          clear hpd
          go_wp2_with fail
          refine (hPj _).mono ?_
          rintro e wq ⟨rfl, hbq⟩
          have HBq := Hid.mk (bl2 HBj.out hbq)
          have hc3 := (HKk.out.kept HBq.out).cell (p := p) (by omega)
          generalize hcv : cur.getD p false = cv at *
          have HCV := Hid.mk hcv
          clear hbq c0 c1 c2 c3 c4 c5 c6 c7 c8 hPj hcv
          cases cv with
          | true =>
            have hr : ovN bk st k bk' st' sz' = true := by
              obtain ⟨i, h1, h2⟩ := (HCk.out p (by omega)).1 HCV.out
              exact ovN_yes h1 hlt2 (h2.trans HPD.out.symm)
            have HR := Hid.mk hr
            clear hr
            go_wp2_with fail
            go_ret
            exact ⟨by rw [HR.out]; rfl, bl2 HB2.out (bl2 HBk.out HBq.out)⟩
          | false =>
            go_wp2_with fail
            go_roundw
            case rel => exact ⟨j + 1, by omega, by go_num, Hid.mk (fun q hq => by
              rcases Nat.lt_or_ge q j with h | h
              · exact HJ.out q h
              · have : q = j := by omega
                subst this
                rw [HPD.out]; exact HCV.out), HBq⟩
            case measure => simp [intOf]; omega
        · have e : j = sz' := by omega
          subst e
          have hr : ovN bk st k bk' st' j = false := ovN_no (fun q hq i hi e => by
            have h0 := HJ.out q hq
            have h1 := (HCk.out (plN bk' st' j q) (HPL'.out q hq)).2 ⟨i, hi, e⟩
            rw [h0] at h1
            cases h1)
          have HR := Hid.mk hr
          clear hr
          go_wp2_with fail
          go_ret
          exact ⟨by rw [HR.out]; rfl, bl2 HB2.out (bl2 HBk.out HBj.out)⟩
end Bw
end Go.Proofs.YtlnkhlifkooohaaGreatDoor
