/- What signal.Places answers. -/
import Derived.Test.YtgknolliicachaaDoorSgSpan
namespace Go.Proofs.YtgknolliicachaaDoor
open Go.ChangeShapes Go.WideShapes Go.ChangeAt Go.RowKit Go.Sort
namespace Bw
open Sm
theorem owns_baseP {w : World} {base base' : Nat} {e : TypeId} {size : Nat} {v : Value} {n : Nat} {xs : List Value} (h : w.ownsRow base e size v n xs) (hb : base' ≤ base) : w.ownsRow base' e size v n xs := by
  obtain ⟨h1, h2⟩ := h
  refine ⟨h1, ?_⟩
  rcases h2 with h2 | ⟨g, cap, cur, hv, hg, r⟩
  · exact Or.inl h2
  · exact Or.inr ⟨g, cap, cur, hv, Nat.le_trans hb hg, r⟩
theorem info_intP : (Tryd.prog.info? 3).map (fun i => (i.zero, i.size, i.bytes)) = some (some (.int .i64 0), 1, 8) := by kernel_rfl
/-- numbers as cells -/
def pnC (l : List Int) : List Value := l.map fun n => .int .i64 n
/-- the places of a signal's bits -/
def plsL (bk : Bool) (st sz k : Nat) : List Int := (List.range k).map fun i => (plN bk st sz i : Int)
def plsK (bk : Bool) (st sz k : Nat) : List Int := plsL bk st sz k ++ List.replicate (sz - k) 0
theorem plsL_length (bk : Bool) (st sz k : Nat) : (plsL bk st sz k).length = k := by simp [plsL]
theorem plsL_succ (bk : Bool) (st sz k : Nat) : plsL bk st sz (k + 1) = plsL bk st sz k ++ [(plN bk st sz k : Int)] := by simp [plsL, List.range_succ]
theorem plsK_start (bk : Bool) (st sz : Nat) : pnC (plsK bk st sz 0) = List.replicate sz (Value.int .i64 0) := by simp [pnC, plsK, plsL]
theorem plsK_end (bk : Bool) (st sz : Nat) : plsK bk st sz sz = plsL bk st sz sz := by simp [plsK]
theorem plsK_at (bk : Bool) (st sz k : Nat) (hk : k < sz) : (pnC (plsK bk st sz k))[k]? = some (.int .i64 0) := by
  unfold pnC plsK
  rw [List.getElem?_map, List.getElem?_append_right (by rw [plsL_length]; omega), plsL_length, Nat.sub_self, List.getElem?_replicate, if_pos (by omega)]
  rfl
theorem plsK_set (bk : Bool) (st sz k : Nat) (hk : k < sz) : (pnC (plsK bk st sz k)).set k (.int .i64 (plN bk st sz k : Int)) = pnC (plsK bk st sz (k + 1)) := by
  unfold pnC plsK
  have e : sz - k = (sz - (k + 1)) + 1 := by omega
  rw [plsL_succ, e, List.replicate_succ, List.map_append, List.map_cons, List.set_append_right _ _ (by simp [plsL_length])]
  simp [plsL_length]
set_option maxHeartbeats 4000000 in
theorem places_bad (s : Sig) (size : Int) (w : World) (h : wfS s) (hE : chkS s size ≠ 0) :
    Calls Tryd.prog 6 #[sgV s, .int .i64 size] w fun e w' => e = .returned (.tuple #[.slice none 0 0, .int .i64 (chkS s size)]) ∧ Below w.heap.size w w' := by
  have HB := Hid.mk (sg_box w s)
  have hC := fun W => scheck_any s size W h
  have hne : (chkS s size != 0) = true := by simpa using hE
  clear hE
  generalize chkS s size = E at *
  obtain ⟨nm, st, sz, bk, sg, mu, di, ad, ky⟩ := s
  unfold sgC at HB
  unfold sgV at hC ⊢
  simp only at HB hC ⊢
  clear h
  go_enter Tryd.func6, Tryd.ntmps6
  go_wp2_with fail
  refine (hC _).mono ?_
  rintro e w1 ⟨rfl, hb1⟩
  have HB1 := Hid.mk (bl2 HB.out hb1)
  clear hb1
  go_wp2_with fail
  go_ret2
  exact ⟨rfl, HB1.out⟩
set_option maxHeartbeats 4000000 in
theorem places_ok (s : Sig) (st sz n : Nat) (size : Int) (w : World) (h : wfS s) (hE : chkS s size = 0) (hR : Rt s st sz n) :
    Calls Tryd.prog 6 #[sgV s, .int .i64 size] w fun e w' => ∃ v, e = .returned (.tuple #[v, .int .i64 0]) ∧
      w'.ownsRow w.heap.size 3 1 v sz (pnC (plsL s.bk st sz sz)) ∧ Below w.heap.size w w' := by
  obtain ⟨i0, hi, hz0, hz1, hz2⟩ := info_parts info_intP
  have HB := Hid.mk (sg_box w s)
  have HG := Hid.mk (SgAt.box w s)
  have hC := fun W => scheck_any s size W h
  rw [hE] at hC
  have hst := hR.hst
  have hsz := hR.hsz
  have h1 := hR.s1
  have h40 := hR.s40
  have hstb := hR.st_lt
  have hn64 := hR.n64
  have HP := Hid.mk (fun (k : Nat) (hk : k < sz) W => by
    have := place_any s (k : Int) W (by rw [hst]; omega) (by rw [hsz]; omega) (by rw [hsz]; omega)
    rw [hR.pl hk] at this
    exact this)
  obtain ⟨nm, sta, sza, bk, sg, mu, di, ad, ky⟩ := s
  simp only at hst hsz
  subst hst
  subst hsz
  unfold sgC at HB HG
  unfold sgV at hC HP ⊢
  simp only at HB HG hC HP ⊢
  have a1 : (1 : Int) ≤ (sz : Int) := by omega
  have a2 : (sz : Int) ≤ 40 := by omega
  clear h hE hR hstb hn64 h1 h40
  go_enter Tryd.func6, Tryd.ntmps6
  go_wp2_with fail
  refine (hC _).mono ?_
  rintro e w1 ⟨rfl, hb1⟩
  have HB1 := Hid.mk (bl2 HB.out hb1)
  have HG1 := Hid.mk (HG.out.kept hb1)
  have k2 := HG1.out.c2
  simp only at k2
  clear hb1 HB HG hC
  go_wp2_with (at_make; refine wpList_make_full _ rfl (.tmp 16) (.tmp 16) 24 rfl w1.heap.size 3 i0 (.int .i64 0) 1 Tryd.underlying24 hi hz0 hz1 .i64 .i64 _ _ sz rfl rfl (by omega) (by omega) (by rw [hz2]; omega) (by unfold maxLen; omega) (Nat.le_refl _) ?_; intro w2 hown hgrow; have hb2 : Below w1.heap.size w1 w2 := Below.grown (Below.refl _ _) hgrow (Nat.le_refl _) (fun q hq => by cases hq); have k2' := (HG1.out.kept hb2).c2; simp only at k2')
  have hown0 : w2.ownsRow w1.heap.size 3 1 (.slice (some ⟨w1.heap.size, 0, none⟩) sz sz) sz (pnC (plsK bk st sz 0)) := by
    rw [plsK_start, ← toList_madeCells_one]
    rw [Nat.mul_one] at hown
    exact hown
  have HO := Hid.mk hown0
  have HB2 := Hid.mk hb2
  clear hown hgrow hi hz0 hz1 hz2 hown0 hb2 k2
  go_loopw [20] (fun i wr => ∃ k : Nat, k ≤ sz ∧ i = .int .i64 k ∧ Hid (wr.ownsRow w1.heap.size 3 1 (.slice (some ⟨w1.heap.size, 0, none⟩) sz sz) sz (pnC (plsK bk st sz k))) ∧ Hid (Below w1.heap.size w1 wr)) (fun i _ => sz - (intOf i).toNat)
  case atStart => exact ⟨0, Nat.zero_le _, rfl, HO, HB2⟩
  case round =>
    clear HO HB2 k2'
    obtain ⟨k, hk, rfl, HOk, HBk⟩ := hrel
    by_cases hlt : k < sz
    · have hlt' : (k : Int) < (sz : Int) := by omega
      obtain ⟨c0, c1, c2, c3, c4, c5, c6, c7, c8⟩ := HG1.out.kept HBk.out
      simp only at c0 c1 c2 c3 c4 c5 c6 c7 c8
      have hPk := HP.out k hlt
      have HSET := Hid.mk (plsK_set bk st sz k hlt)
      have HAT := Hid.mk (plsK_at bk st sz k hlt)
      generalize plN bk st sz k = p at *
      go_wp2_with fail
      refine (hPk _).mono ?_
      rintro e wq ⟨rfl, hbq⟩
      have HOq := Hid.mk (ownsRow_below HOk.out hbq)
      have HBq := Hid.mk (bl2 HBk.out hbq)
      have hc3 := HOq.out.cellAt k (by omega)
      have hf3 := HOq.out.frozenAt k
      rw [HAT.out] at hc3
      have hst := HOq.out.stored k (.int .i64 (p : Int))
      rw [HSET.out] at hst
      have HST := Hid.mk hst
      clear hst hbq c0 c1 c2 c3 c4 c5 c6 c7 c8 hPk
      go_wp2_with fail
      go_roundw
      case rel => exact ⟨k + 1, by omega, by go_num, Hid.mk HST.out.1, Hid.mk (HBq.out.grown HST.out.2 HBq.out.size (fun q hq => by cases hq; exact Nat.le_refl _))⟩
      case measure => simp [intOf]; omega
    · have e : k = sz := by omega
      subst e
      have hfin := HOk.out
      rw [plsK_end] at hfin
      have HF := Hid.mk hfin
      clear hfin
      go_wp2_with fail
      go_ret2
      exact ⟨_, rfl, owns_baseP HF.out HB1.out.size, bl2 HB1.out HBk.out⟩
end Bw
end Go.Proofs.YtgknolliicachaaDoor
