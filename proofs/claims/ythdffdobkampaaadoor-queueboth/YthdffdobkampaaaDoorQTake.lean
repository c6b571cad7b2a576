/- What queue.Take answers. -/
import Derived.Test.YthdffdobkampaaaDoorQPut
namespace Go.Proofs.YthdffdobkampaaaDoor
open Go.ChangeShapes Go.WideShapes Go.ChangeAt Go.RowKit
namespace Bw
open Bm Cm
/-- the block of a frame -/
def FmAt (w : World) (b : Nat) (v : FrV) : Prop := w.heap[b]? = some (.cells v.cells.toArray 25 (0, 0))
theorem FmAt.lt {w : World} {b : Nat} {v : FrV} (h : FmAt w b v) : b < w.heap.size := (Array.getElem?_eq_some_iff.1 h).1
theorem FmAt.kept {w w' : World} {b : Nat} {v : FrV} (h : FmAt w b v) (hb : Below w.heap.size w w') : FmAt w' b v := by unfold FmAt; rw [hb.block b h.lt]; exact h
theorem FmAt.tch {gs : List Nat} {w w' : World} {b : Nat} {v : FrV} (h : FmAt w b v) (ht : Tch gs w w') (hb : b ∉ gs) : FmAt w' b v := by unfold FmAt; rw [ht.block b h.lt hb]; exact h
theorem FmAt.new (w : World) (v : FrV) : FmAt (w.alloc (.cells v.cells.toArray 25)) w.heap.size v := heap_alloc_new w _
theorem frv_one (v : FrV) : ∀ u ∈ v.cells, u.oneCell' = true := by
  intro u hu
  unfold FrV.cells at hu
  simp only [List.mem_cons, List.not_mem_nil, or_false] at hu
  rcases hu with rfl | rfl | rfl | rfl | rfl | rfl <;> rfl
/-- a frame of its own is stored -/
theorem wp_store_fm {o : Oper} {a : Act} {w : World} {K : Act → World → Prop} {Q : Exit → Act → World → Prop} (x y : Operand) (ho : o.op = .store 25 x y) (b : Nat) (e e' : FrV) (hx : a.eval x = .pointer (some ⟨b, 0, none⟩)) (hy : a.eval y = .agg e'.cells.toArray) (hL : FmAt w b e)
    (h : ∀ w', FmAt w' b e' → Tch [b] w w' → K (a.put o.dst undef) w') : o.wp Tryd.prog a w K Q := by
  have hlen : e'.cells.length = 6 := rfl
  have hsz : e.cells.toArray.size = 6 := rfl
  have hset := set_row (o := 0) hL (by rw [hlen, hsz]; omega) (frv_one e')
  rw [Nat.zero_add, List.take_zero, List.nil_append, List.drop_of_length_le (by rw [hlen]; exact Nat.le_refl _), List.append_nil] at hset
  refine wp_store_mid 25 x y ho b 0 e'.cells.toArray hx hy (fun j hj => ⟨?_, frozen_of_row w b _ _ _ hL⟩) fr_info (all_oneCell_toArray (frv_one e')) ?_
  · have hj' : j < 6 := hj
    rw [cell_of_row w b _ _ _ _ hL]; rw [Array.getElem?_eq_getElem (by rw [hsz]; omega)]; rfl
  · show K _ (w.setCells b 0 e'.cells)
    rw [hset]
    exact h _ (setRow_heap w b _ _ _ _ hL) (tch_row _)
theorem wpl_store_fm {ops : Array Oper} {rest : List Oper} {dst : Option Tmp} {ty : TypeId} {pos : String} {aft : Array Edge} {a : Act} {w : World} {Q : Exit → Act → World → Prop} (x y : Operand) (b : Nat) (e e' : FrV) (hx : a.eval x = .pointer (some ⟨b, 0, none⟩)) (hy : a.eval y = .agg e'.cells.toArray) (hL : FmAt w b e)
    (h : ∀ w', FmAt w' b e' → Tch [b] w w' → wpList Tryd.prog ops Q rest (a.put dst undef) w') :
    wpList Tryd.prog ops Q (Oper.mk dst (.store 25 x y) ty pos aft none :: rest) a w :=
  wpList_plain rfl fun _ hK => wp_store_fm x y rfl b e e' hx hy hL fun w' h1 h2 => hK _ _ (h w' h1 h2)
theorem tk_results (tmps : Array Value) (w : World) (b : Nat) (v : FrV) (y z : Value) (hp : tmps.getD 2 undef = .pointer (some ⟨b, 0, none⟩)) (hy : tmps.getD 3 undef = y) (hz : tmps.getD 4 undef = z) (h : FmAt w b v) :
    (results Tryd.f10 tmps).run Tryd.prog w = .ok (.tuple #[.agg v.cells.toArray, y, z]) w := by
  have hl := run_loadVar_row (P := Tryd.prog) w b 25 25 _ (0, 0) _ h Tryd.underlying25 rfl fr_info
  have hp' : tmps[2]?.getD undef = .pointer (some ⟨b, 0, none⟩) := by simpa using hp
  have hy' : tmps[3]?.getD undef = y := by simpa using hy
  have hz' : tmps[4]?.getD undef = z := by simpa using hz
  simp [results, hp', hy', hz', asAddr, hl]
theorem elem_fr : Tryd.prog.elem 22 = 25 := by kernel_rfl
theorem size_fr (W : World) : (sizeOf 25).run Tryd.prog W = .ok 6 W := by simp [go_sem]
theorem und_fr : Tryd.prog.underlying 22 = some (.slice (Tryd.prog.elem 22)) := by rw [elem_fr]; exact Tryd.underlying22
theorem slice_fr (x : Addr) (n c k : Nat) (hk : k ≤ n) (W : World) : (Instr.slice 22 (.slice (some x) n c) (some (.int .i64 (k : Int))) none none).run Tryd.prog W = .ok (.slice (some (if c = k then x else x.add (k * 6))) (n - k) (c - k)) W := by
  rw [run_slice_l (ht := und_fr) (h0 := by omega) (h1 := by omega), elem_fr, size_fr]
  simp only [Result.andThen, sliced, Int.toNat_natCast]
  split <;> rfl
theorem frames_drop {w : World} {x : Addr} {n c : Nat} {l : List FrV} (h : IsFrames w (some x) n c l) (k : Nat) (hk : k ≤ n) : IsFrames w (some (if c = k then x else x.add (k * 6))) (n - k) (c - k) (l.drop k) := by
  have hl := h.len
  have hc := h.le
  have hm := h.max
  refine ⟨by rw [List.length_drop]; omega, by omega, by omega, (fun h => by cases h), fun y hy i hi j hj => ?_, fun i hi => ?_⟩
  · rw [List.length_drop] at hi
    rw [if_neg (by omega)] at hy
    cases hy
    have ea : (x.add (k * 6)).add (i * 6 + j) = x.add (k * 6 + (i * 6 + j)) := by
      first | exact Addr.add_add _ _ _ | (unfold Addr.add; simp; omega)
    have h1 := h.cell x rfl (k + i) (by omega) j hj
    rw [ea, show k * 6 + (i * 6 + j) = (k + i) * 6 + j by omega, h1]
    simp only [List.getElem_drop]
    rfl
  · rw [List.getElem_drop]
    rw [List.length_drop] at hi
    exact h.bytes (k + i) (by omega)
theorem range_tch {gs : List Nat} {w w' : World} {b o : Nat} {cs : List Value} (h : w.rangeAt b o cs) (ht : Tch gs w w') (hb : b ∉ gs) : w'.rangeAt b o cs := by
  intro j v hv
  have h1 := h j v hv
  have hlt := block_lt_of_cell h1
  unfold World.cell? at h1 ⊢
  rw [ht.block b hlt hb]
  exact h1
theorem IsFrames.tch {gs : List Nat} {w w' : World} {a : Option Addr} {n cap : Nat} {l : List FrV} (h : IsFrames w a n cap l) (ht : Tch gs w w') (ha : ∀ x, a = some x → x.block ∉ gs) (hd : ∀ v ∈ l, ∀ x, v.a = some x → x.block ∉ gs) : IsFrames w' a n cap l := by
  refine ⟨h.len, h.le, h.max, h.none, fun x hx i hi k hk => ?_, fun i hi => isBytes_tchO (h.bytes i hi) ht (hd _ (List.getElem_mem hi))⟩
  have h1 := h.cell x hx i hi k hk
  have hlt := block_lt_of_cell h1
  have hblk : (x.add (i * 6 + k)).block = x.block := by unfold Addr.add; split <;> rfl
  unfold World.cell? at h1 ⊢
  rw [ht.block _ hlt (by rw [hblk]; exact ha x hx)]
  exact h1
def takeE (l : List Fr) : Int := if chkQ l = 0 then (if l.length = 0 then 8 else 0) else chkQ l
set_option maxHeartbeats 1000000 in
set_option maxRecDepth 100000 in
theorem take_bad (a : Option Addr) (n cap : Nat) (l : List FrV) (w : World) (hS : SizesAt w) (hF : IsFrames w a n cap l) (hq : chkQ (l.map (·.f)) ≠ 0 ∨ n = 0) :
    Calls Tryd.prog 10 #[.slice a n cap] w fun e w' => e = .returned (.tuple #[.agg zV.cells.toArray, .slice none 0 0, .int .i64 (takeE (l.map (·.f)))]) ∧ Below w.heap.size w w' := by
  have hb0 : Below w.heap.size w (w.alloc (.cells zV.cells.toArray 25)) := (Below.refl _ _).alloc (Nat.le_refl _) _
  have hM0 := FmAt.new w zV
  have h1 := lineOf_any a n cap l _ (hS.kept hb0) (hF.kept hb0)
  have HB0 := Hid.mk hb0
  have HM0 := Hid.mk hM0
  have hlen := hF.len
  by_cases hc : chkQ (l.map (·.f)) = 0
  · have hn0 : n = 0 := by rcases hq with h | h; exact absurd hc h; exact h
    have e0 : takeE (l.map (·.f)) = 8 := by unfold takeE; rw [if_pos hc, if_pos (by rw [List.length_map, hlen]; exact hn0)]
    rw [hc, show lineL l = lnC (padA l l.length) l.length by unfold lineL; rw [if_pos hc]] at h1
    have hplen : (padA l l.length).length = 32 := padA_len l l.length (Nat.le_refl _) (by omega)
    have hl0 : (l.length : Int) = 0 := by omega
    rw [hl0] at h1
    rw [e0]
    generalize padA l l.length = PA at *
    have H1 := Hid.mk h1
    subst hn0
    clear hb0 hM0 h1 hS hF hq hc e0 hl0 hlen
    go_enter Tryd.func10, Tryd.ntmps10
    go_wp2_with fail
    refine H1.out.mono ?_
    rintro e w1 ⟨rfl, hb1⟩
    have hb12 := bl2 hb1 (below_zero w1)
    have HM1 := Hid.mk (HM0.out.kept hb12)
    have HB1 := Hid.mk (bl2 HB0.out hb12)
    have hl1 : w.heap.size < w1.heap.size := (HM0.out.kept hb1).lt
    clear hb1 hb12
    go_wp2_with (first | ((with_reducible_and_instances refine wpl_store_line (.tmp 5) (.tmp 11) w1.heap.size (List.replicate 32 zE) PA 0 0 ?_ ?_ (LnAt.zero w1) hplen ?_); rfl; rfl; intro w5 hL5 hT5; have c5 := hL5.size; have HT5 := Hid.mk hT5; clear hL5 hT5) | ((with_reducible_and_instances refine wpl_store_fm (.tmp 2) (.tmp 20) w.heap.size zV zV ?_ ?_ (HM1.out.tch HT5.out (by simp; omega)) ?_); rfl; rfl; intro w6 hE6 hT6))
    refine bodyPost_ret (tk_results _ _ w.heap.size _ _ _ rfl rfl rfl hE6) rfl ?_
    exact ⟨rfl, Tch.below (Tch.below HB1.out HT5.out (by simp; omega) (Nat.le_refl _)) hT6 (by simp) (Nat.le_refl _)⟩
  · have e0 : takeE (l.map (·.f)) = chkQ (l.map (·.f)) := by unfold takeE; rw [if_neg hc]
    rw [show lineL l = lnC (List.replicate 32 zE) 0 by unfold lineL; rw [if_neg hc]] at h1
    rw [e0]
    have hplen : (List.replicate 32 zE).length = 32 := by simp
    have hne : (chkQ (l.map (·.f)) != 0) = true := by simpa using hc
    generalize chkQ (l.map (·.f)) = ce at *
    have H1 := Hid.mk h1
    clear hb0 hM0 h1 hS hF hq hc e0 hlen
    go_enter Tryd.func10, Tryd.ntmps10
    go_wp2_with fail
    refine H1.out.mono ?_
    rintro e w1 ⟨rfl, hb1⟩
    have hb12 := bl2 hb1 (below_zero w1)
    have HM1 := Hid.mk (HM0.out.kept hb12)
    have HB1 := Hid.mk (bl2 HB0.out hb12)
    have hl1 : w.heap.size < w1.heap.size := (HM0.out.kept hb1).lt
    clear hb1 hb12
    go_wp2_with (first | ((with_reducible_and_instances refine wpl_store_line (.tmp 5) (.tmp 11) w1.heap.size (List.replicate 32 zE) (List.replicate 32 zE) 0 0 ?_ ?_ (LnAt.zero w1) hplen ?_); rfl; rfl; intro w5 hL5 hT5; have HT5 := Hid.mk hT5; clear hL5 hT5) | ((with_reducible_and_instances refine wpl_store_fm (.tmp 2) (.tmp 15) w.heap.size zV zV ?_ ?_ (HM1.out.tch HT5.out (by simp; omega)) ?_); rfl; rfl; intro w6 hE6 hT6))
    refine bodyPost_ret (tk_results _ _ w.heap.size _ _ _ rfl rfl rfl hE6) rfl ?_
    exact ⟨rfl, Tch.below (Tch.below HB1.out HT5.out (by simp; omega) (Nat.le_refl _)) hT6 (by simp) (Nat.le_refl _)⟩
set_option maxHeartbeats 1000000 in
set_option maxRecDepth 100000 in
theorem take_ok (a : Option Addr) (n cap : Nat) (l : List FrV) (w : World) (hS : SizesAt w) (hF : IsFrames w a n cap l) (hc : chkQ (l.map (·.f)) = 0) (hn : 0 < n) :
    Calls Tryd.prog 10 #[.slice a n cap] w fun e w' => ∃ (v : FrV) (x : Addr) (c : Nat) (l2 : List FrV), e = .returned (.tuple #[.agg v.cells.toArray, .slice (some x) (n - 1) c, .int .i64 0]) ∧ v.f :: l2.map (·.f) = l.map (·.f) ∧ IsBytes w' v.a v.len v.cap v.f.dt ∧ IsFrames w' (some x) (n - 1) c l2 ∧ Below w.heap.size w w' := by
  have hb0 : Below w.heap.size w (w.alloc (.cells zV.cells.toArray 25)) := (Below.refl _ _).alloc (Nat.le_refl _) _
  have hM0 := FmAt.new w zV
  have h1 := lineOf_any a n cap l _ (hS.kept hb0) (hF.kept hb0)
  have HB0 := Hid.mk hb0
  have HM0 := Hid.mk hM0
  have hlen := hF.len
  obtain ⟨q1, q2, _⟩ := chk_ok hc
  rw [List.length_map] at q1
  rw [hc, show lineL l = lnC (padA l l.length) l.length by unfold lineL; rw [if_pos hc]] at h1
  have hplen : (padA l l.length).length = 32 := padA_len l l.length (Nat.le_refl _) (by omega)
  have hYl := hF.all
  have hfo := fun W (hb : Below w.heap.size w W) => framesOf_any l (List.replicate (32 - l.length) zE) W (by rw [List.length_replicate]; omega) (fun u hu => isBytes_below (hYl u hu) hb) (fun u hu => q2 _ (List.mem_map_of_mem hu))
  rw [← padA_all] at hfo
  generalize padA l l.length = PA at *
  have hl0 : (l.length : Int) = (n : Int) := by omega
  rw [hl0] at h1 hfo
  have H1 := Hid.mk h1
  have HFO := Hid.mk hfo
  have hnb : ((n : Int) == 0) = false := by simp; omega
  clear hb0 hM0 h1 hS hF hc hl0 hfo hYl q1 q2
  go_enter Tryd.func10, Tryd.ntmps10
  go_wp2_with fail
  refine H1.out.mono ?_
  rintro e w1 ⟨rfl, hb1⟩
  have hb12 := bl2 hb1 (below_zero w1)
  have HM1 := Hid.mk (HM0.out.kept hb12)
  have HB1 := Hid.mk (bl2 HB0.out hb12)
  have hl1 : w.heap.size < w1.heap.size := (HM0.out.kept hb1).lt
  clear hb1 hb12
  go_wp2_with (first | ((with_reducible_and_instances refine wpl_store_line (.tmp 5) (.tmp 11) w1.heap.size (List.replicate 32 zE) PA 0 n ?_ ?_ (LnAt.zero w1) hplen ?_); rfl; rfl; intro w5 hL5 hT5; have c5 := hL5.size; have HL5 := Hid.mk hL5; have HT5 := Hid.mk hT5; clear hL5 hT5) | ((with_reducible_and_instances refine wpl_load_line (.tmp 5) w1.heap.size _ _ ?_ HL5.out ?_); rfl))
  have HB5 := Hid.mk (Tch.below HB1.out HT5.out (by simp; omega) (Nat.le_refl _))
  have HM5 := Hid.mk (HM1.out.tch HT5.out (by simp; omega))
  refine (HFO.out _ HB5.out).mono ?_
  rintro e w6 ⟨r, l', rfl, hf, ho, hb6⟩
  have HB6 := Hid.mk (bl2 HB5.out hb6)
  have HM6 := Hid.mk (HM5.out.kept hb6)
  have hl' : l'.length = n := by have := congrArg List.length hf; simpa [hlen] using this
  obtain ⟨a6, c6, rfl, hF6⟩ := ho.frames
  obtain ⟨g, rfl, hg⟩ : ∃ g, a6 = some ⟨g, 0, none⟩ ∧ w.heap.size < g := by
    rcases ho.row.2 with ⟨h1, h2⟩ | ⟨g, cap2, cur, h1, hg, _⟩
    · omega
    · refine ⟨g, ?_, ?_⟩
      · injection h1
      · have := HM5.out.lt; omega
  rw [hl'] at hF6 ⊢
  obtain ⟨v, l2, rfl⟩ : ∃ v l2, l' = v :: l2 := by
    cases l' with
    | nil => simp at hl'; omega
    | cons v l2 => exact ⟨v, l2, rfl⟩
  have hFd := frames_drop hF6 1 (by omega)
  have hsl := fun W => slice_fr ⟨g, 0, none⟩ n c6 1 (by omega) W
  rw [show ((1 : Nat) : Int) = 1 from rfl] at hsl
  have hxb : (if c6 = 1 then (⟨g, 0, none⟩ : Addr) else Addr.add ⟨g, 0, none⟩ (1 * 6)).block = g := by
    split
    · rfl
    · unfold Addr.add; split <;> rfl
  generalize (if c6 = 1 then (⟨g, 0, none⟩ : Addr) else Addr.add ⟨g, 0, none⟩ (1 * 6)) = x2 at *
  have hrg : w6.rangeAt g 0 v.cells := by
    intro j u hj
    obtain ⟨hj6, hju⟩ := List.getElem?_eq_some_iff.1 hj
    have h2 := hF6.cell ⟨g, 0, none⟩ rfl 0 (by simp) j hj6
    rw [Nat.zero_mul, Nat.zero_add, Addr.add_mid] at h2
    rw [h2]
    exact congrArg some hju
  have hYv := hF6.bytes 0 (by simp)
  have HFd := Hid.mk hFd
  have HRG := Hid.mk hrg
  have HYV := Hid.mk (show IsBytes w6 v.a v.len v.cap v.f.dt from hYv)
  have HFM := Hid.mk hf
  have hn' : (0 : Int) < (n : Int) := by omega
  have hn1 : (1 : Int) ≤ (n : Int) := by omega
  have hfr : ∀ u ∈ v :: l2, ∀ y, u.a = some y → y.block ∉ [w.heap.size] := by
    intro u hu y hy e
    have h1 := ho.fresh u hu y hy
    have h2 := HM5.out.lt
    simp at e
    omega
  have HFR := Hid.mk hfr
  have HXB := Hid.mk hxb
  clear ho hb6 HT5 c5 hF6 hFd hrg hf hYv hfr hxb
  go_wp2_with fail
  refine wp_region_held_drew (S := fun W => W.rangeAt g 0 v.cells) (by kernel_rfl) HRG.out (fun hHeld => ?_)
  refine wpAnyH_take (i := 0) (v := .slice (some ⟨g, 0, none⟩) n c6) rfl (by kernel_rfl) (by kernel_rfl) (by kernel_rfl) (fun _ _ _ h => h) (Or.inl ⟨by rfl, fun _ _ => rfl⟩) hHeld ?_
  simp only [List.getElem_toArray, List.getElem_cons_zero, Act.put, List.setIfInBounds_toArray, List.set_cons_zero, List.set_cons_succ]
  refine wpAnyH_take (i := 1) (v := .pointer (some ⟨g, 0, none⟩)) rfl (by kernel_rfl) (by kernel_rfl) (by kernel_rfl) (fun _ _ _ h => h) (Or.inl ⟨by rfl, fun W hW => by clear hW hHeld; go_simp⟩) hHeld ?_
  simp only [List.getElem_toArray, List.getElem_cons_zero, List.getElem_cons_succ, Act.put, List.setIfInBounds_toArray, List.set_cons_zero, List.set_cons_succ]
  refine wpAnyH_take (i := 2) rfl (by kernel_rfl) (by kernel_rfl) (by kernel_rfl) (fun _ _ _ h => h) (yieldsIf_load_mid (by rfl) _ _ rfl g 0 rfl v.cells _ (fun W hW => hW) Tryd.underlying25 rfl fr_info) hHeld ?_
  simp only [List.getElem_toArray, List.getElem_cons_zero, List.getElem_cons_succ, Act.put, List.setIfInBounds_toArray, List.set_cons_zero, List.set_cons_succ]
  refine wpAnyH_take (i := 3) (v := .slice (some ⟨g, 0, none⟩) n c6) rfl (by kernel_rfl) (by kernel_rfl) (by kernel_rfl) (fun _ _ _ h => h) (Or.inl ⟨by rfl, fun _ _ => rfl⟩) hHeld ?_
  simp only [List.getElem_toArray, List.getElem_cons_zero, List.getElem_cons_succ, Act.put, List.setIfInBounds_toArray, List.set_cons_zero, List.set_cons_succ]
  refine wpAnyH_take (i := 4) (v := .slice (some x2) (n - 1) (c6 - 1)) rfl (by kernel_rfl) (by kernel_rfl) (by kernel_rfl) (fun _ _ _ h => h) (Or.inl ⟨by rfl, fun W hW => by clear hW hHeld; go_simp⟩) hHeld ?_
  simp only [List.getElem_toArray, List.getElem_cons_zero, List.getElem_cons_succ, Act.put, List.setIfInBounds_toArray, List.set_cons_zero, List.set_cons_succ]
  refine wpAnyH_ready (rs := [5]) (by kernel_rfl) (by simp) ?_
  refine AllReadyH.cons rfl (fun K hK => ?_) AllReadyH.nil
  rw [if_pos (by rfl)]
  refine wp_store_fm (.tmp 2) (.tmp 25) rfl w.heap.size zV v rfl rfl HM6.out ?_
  intro w8 hE8 hT8
  refine hK.out _ _ (range_tch hHeld hT8 (by simp; omega)) (fun hHeld8 => ?_)
  clear hK K
  simp only [List.getElem_toArray, List.getElem_cons_zero, List.getElem_cons_succ, Act.put]
  refine wpAnyH_take (i := 6) (v := .slice (some x2) (n - 1) (c6 - 1)) rfl (by kernel_rfl) (by kernel_rfl) (by kernel_rfl) (fun _ _ _ h => h) (Or.inl ⟨by rfl, fun _ _ => rfl⟩) hHeld8 ?_
  simp only [List.getElem_toArray, List.getElem_cons_zero, List.getElem_cons_succ, Act.put, List.setIfInBounds_toArray, List.set_cons_zero, List.set_cons_succ]
  refine wpAnyH_take (i := 7) (v := .int .i64 0) rfl (by kernel_rfl) (by kernel_rfl) (by kernel_rfl) (fun _ _ _ h => h) (Or.inl ⟨by rfl, fun _ _ => rfl⟩) hHeld8 ?_
  simp only [List.getElem_toArray, List.getElem_cons_zero, List.getElem_cons_succ, Act.put, List.setIfInBounds_toArray, List.set_cons_zero, List.set_cons_succ]
  refine wpAnyH_done (by kernel_rfl) ?_ _
  go_wp2_with fail
  refine bodyPost_ret (tk_results _ _ w.heap.size _ _ _ rfl rfl rfl hE8) rfl ?_
  have hb8 : Below w.heap.size w w8 := Tch.below (HB6.out.trans (show Below w.heap.size w6 w6.drew from ⟨rfl, rfl, rfl, Nat.le_refl _, fun _ _ => rfl⟩)) hT8 (by simp) (Nat.le_refl _)
  exact ⟨v, x2, _, _, rfl, HFM.out, isBytes_tchO (w := w6.drew) HYV.out hT8 (fun y hy => HFR.out v (by simp) y hy), IsFrames.tch (w := w6.drew) ⟨HFd.out.len, HFd.out.le, HFd.out.max, HFd.out.none, HFd.out.cell, HFd.out.bytes⟩ hT8 (fun y hy => by cases hy; rw [HXB.out]; simp; omega) (fun u hu y hy => HFR.out u (List.mem_cons_of_mem _ hu) y hy), hb8⟩
end Bw
end Go.Proofs.YthdffdobkampaaaDoor
