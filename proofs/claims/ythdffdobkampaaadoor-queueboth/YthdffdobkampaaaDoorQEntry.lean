/- What queue.lineAndEntry answers. -/
import Derived.Test.YthdffdobkampaaaDoorQOps
import Derived.Deep.RegionHeld3
namespace Go.Proofs.YthdffdobkampaaaDoor
open Go.ChangeShapes Go.WideShapes Go.ChangeAt Go.RowKit
namespace Bw
open Bm Cm
/-- an entry of its own is stored -/
theorem wp_store_own {o : Oper} {a : Act} {w : World} {K : Act → World → Prop} {Q : Exit → Act → World → Prop} (x y : Operand) (ho : o.op = .store 52 x y) (b : Nat) (e e' : Ent) (hx : a.eval x = .pointer (some ⟨b, 0, none⟩)) (hy : a.eval y = .agg e'.cells.toArray) (hL : EnAt w b e)
    (h : ∀ w', EnAt w' b e' → Tch [b] w w' → K (a.put o.dst undef) w') : o.wp Tryd.prog a w K Q := by
  have hlen : e'.cells.length = 7 := rfl
  have hsz : e.cells.toArray.size = 7 := rfl
  have hset := set_row (o := 0) hL (by rw [hlen, hsz]; omega) (ent_one e')
  rw [Nat.zero_add, List.take_zero, List.nil_append, List.drop_of_length_le (by rw [hlen]; exact Nat.le_refl _), List.append_nil] at hset
  refine wp_store_mid 52 x y ho b 0 e'.cells.toArray hx hy (fun j hj => ⟨?_, frozen_of_row w b _ _ _ hL⟩) ent_info (all_oneCell_toArray (ent_one e')) ?_
  · have hj' : j < 7 := hj
    rw [cell_of_row w b _ _ _ _ hL]; rw [Array.getElem?_eq_getElem (by rw [hsz]; omega)]; rfl
  · show K _ (w.setCells b 0 e'.cells)
    rw [hset]
    exact h _ (setRow_heap w b _ _ _ _ hL) (tch_row _)
theorem wpl_store_own {ops : Array Oper} {rest : List Oper} {dst : Option Tmp} {ty : TypeId} {pos : String} {aft : Array Edge} {a : Act} {w : World} {Q : Exit → Act → World → Prop} (x y : Operand) (b : Nat) (e e' : Ent) (hx : a.eval x = .pointer (some ⟨b, 0, none⟩)) (hy : a.eval y = .agg e'.cells.toArray) (hL : EnAt w b e)
    (h : ∀ w', EnAt w' b e' → Tch [b] w w' → wpList Tryd.prog ops Q rest (a.put dst undef) w') :
    wpList Tryd.prog ops Q (Oper.mk dst (.store 52 x y) ty pos aft none :: rest) a w :=
  wpList_plain rfl fun _ hK => wp_store_own x y rfl b e e' hx hy hL fun w' h1 h2 => hK _ _ (h w' h1 h2)
/-- a whole line is stored, at the operation itself -/
theorem wp_store_line {o : Oper} {a : Act} {w : World} {K : Act → World → Prop} {Q : Exit → Act → World → Prop} (x y : Operand) (ho : o.op = .store 55 x y) (b : Nat) (A B : List Ent) (n m : Int) (hx : a.eval x = .pointer (some ⟨b, 0, none⟩)) (hy : a.eval y = .agg (lnC B m).toArray) (hL : LnAt w b A n) (hB : B.length = 32)
    (h : ∀ w', LnAt w' b B m → Tch [b] w w' → K (a.put o.dst undef) w') : o.wp Tryd.prog a w K Q := by
  have hsz := lnC_arr A n hL.len
  have hsz2 := lnC_arr B m hB
  have hlen : (lnC B m).length = 225 := by rw [lnC_len, hB]
  have hset := set_row (o := 0) hL.row (by rw [hlen, hsz]; omega) (lnC_one B m)
  rw [Nat.zero_add, List.take_zero, List.nil_append, List.drop_of_length_le (by rw [hlen]; simp [lnC_len, hL.len]), List.append_nil] at hset
  refine wp_store_mid 55 x y ho b 0 (lnC B m).toArray hx hy (fun j hj => ⟨?_, frozen_of_row w b _ _ _ hL.row⟩) (by rw [line_info, hsz2]) (all_oneCell_toArray (lnC_one B m)) ?_
  · rw [hsz2] at hj
    rw [cell_of_row w b _ _ _ _ hL.row]; rw [Array.getElem?_eq_getElem (by rw [hsz]; omega)]; rfl
  · show K _ (w.setCells b 0 (lnC B m))
    rw [hset]
    exact h _ ⟨hB, setRow_heap w b _ _ _ _ hL.row⟩ (tch_row _)
theorem range_line {w : World} {b : Nat} {A : List Ent} {n : Int} (h : LnAt w b A n) : w.rangeAt b 0 (lnC A n) := fun j v hv => by
  rw [Nat.zero_add, cell_of_row w b _ _ _ _ h.row, List.getElem?_toArray]; exact hv
theorem range_fr {w : World} {b : Nat} {id : Int} {lo fa re : Bool} {sz : Int} {a : Option Addr} {len cap : Nat} (h : FrAt w b id lo fa re sz a len cap) : w.rangeAt b 0 [.int .i64 id, .bool lo, .bool fa, .bool re, .int .i64 sz, .slice a len cap] := fun j v hv => by
  rw [Nat.zero_add]
  match j, hv with
  | 0, hv => cases hv; exact h.c0
  | 1, hv => cases hv; exact h.c1
  | 2, hv => cases hv; exact h.c2
  | 3, hv => cases hv; exact h.c3
  | 4, hv => cases hv; exact h.c4
  | 5, hv => cases hv; exact h.c5
theorem le_results (tmps : Array Value) (w : World) (b b' : Nat) (A : List Ent) (n : Int) (x : Ent) (y : Value) (hp : tmps.getD 4 undef = .pointer (some ⟨b, 0, none⟩)) (hq : tmps.getD 5 undef = .pointer (some ⟨b', 0, none⟩)) (hy : tmps.getD 6 undef = y) (h : LnAt w b A n) (h' : EnAt w b' x) :
    (results Tryd.f28 tmps).run Tryd.prog w = .ok (.tuple #[.agg (lnC A n).toArray, .agg x.cells.toArray, y]) w := by
  have hl := run_loadVar_row (P := Tryd.prog) w b 55 55 _ (0, 0) _ h.row Tryd.underlying55 rfl (by rw [line_info, lnC_arr _ _ h.len])
  have hl' := run_loadVar_row (P := Tryd.prog) w b' 52 52 _ (0, 0) _ h' Tryd.underlying52 rfl ent_info
  have hp' : tmps[4]?.getD undef = .pointer (some ⟨b, 0, none⟩) := by simpa using hp
  have hq' : tmps[5]?.getD undef = .pointer (some ⟨b', 0, none⟩) := by simpa using hq
  have hy' : tmps[6]?.getD undef = y := by simpa using hy
  simp [results, hp', hq', hy', asAddr, hl, hl']
theorem FrAt.tch {gs : List Nat} {w w' : World} {g : Nat} {id : Int} {lo fa re : Bool} {sz : Int} {a : Option Addr} {len cap : Nat} (h : FrAt w g id lo fa re sz a len cap) (ht : Tch gs w w') (hg : g ∉ gs) : FrAt w' g id lo fa re sz a len cap := by
  have hlt : g < w.heap.size := block_lt_of_cell h.c0
  have e : ∀ k, w'.cell? ⟨g, k, none⟩ = w.cell? ⟨g, k, none⟩ := fun k => by unfold World.cell?; rw [ht.block g hlt hg]
  exact ⟨by rw [e]; exact h.c0, by rw [e]; exact h.c1, by rw [e]; exact h.c2, by rw [e]; exact h.c3, by rw [e]; exact h.c4, by rw [e]; exact h.c5⟩
/-- what it answers: what is wrong, or a line and an entry -/
def leE (l : List FrV) (f : Fr) : Int := if chkQ (l.map (·.f)) = 0 then frE f else chkQ (l.map (·.f))
set_option maxHeartbeats 2000000 in
set_option maxRecDepth 100000 in
theorem le_ok (a : Option Addr) (n cap : Nat) (l : List FrV) (v : FrV) (w : World) (hS : SizesAt w) (hF : IsFrames w a n cap l) (hY : IsBytes w v.a v.len v.cap v.f.dt) (hc : chkQ (l.map (·.f)) = 0) (hE : frE v.f = 0) :
    Calls Tryd.prog 28 #[.slice a n cap, frameV v.f.id v.f.lo v.f.fa v.f.re v.f.sz v.a v.len v.cap] w fun e w' => e = .returned (.tuple #[.agg (lnC (padA l l.length) l.length).toArray, .agg (entOf v).cells.toArray, .int .i64 0]) ∧ Below w.heap.size w w' := by
  obtain ⟨⟨id, lo, fa, re, sz, dt⟩, va, vl, vc⟩ := v
  simp only at hY hE ⊢
  have hb0 := below_box w id lo fa re sz va vl vc
  have hK0 := FrAt.box w id lo fa re sz va vl vc
  have hb1 := below_zero (w.alloc (frameC id lo fa re sz va vl vc))
  have hL1 := LnAt.zero (w.alloc (frameC id lo fa re sz va vl vc))
  have hb2 : Below ((w.alloc (frameC id lo fa re sz va vl vc)).alloc (Obj.cells Tryd.zeroCells55 55)).heap.size ((w.alloc (frameC id lo fa re sz va vl vc)).alloc (Obj.cells Tryd.zeroCells55 55)) (((w.alloc (frameC id lo fa re sz va vl vc)).alloc (Obj.cells Tryd.zeroCells55 55)).alloc (Obj.cells zE.cells.toArray 52)) := (Below.refl _ _).alloc (Nat.le_refl _) _
  have hE2 := EnAt.new ((w.alloc (frameC id lo fa re sz va vl vc)).alloc (Obj.cells Tryd.zeroCells55 55)) zE
  have k0 := (hK0.kept hb1).kept hb2
  have k1 := hL1.kept hb2
  have hs1 : (w.alloc (frameC id lo fa re sz va vl vc)).heap.size = w.heap.size + 1 := by simp
  have hs2 : ((w.alloc (frameC id lo fa re sz va vl vc)).alloc (Obj.cells Tryd.zeroCells55 55)).heap.size = w.heap.size + 2 := by simp
  rw [hs1] at k1
  rw [hs2] at hE2
  have kb := bl2 (bl2 hb0 hb1) hb2
  obtain ⟨W3, hW3⟩ : ∃ W3, W3 = (((w.alloc (frameC id lo fa re sz va vl vc)).alloc (Obj.cells Tryd.zeroCells55 55)).alloc (Obj.cells zE.cells.toArray 52)) := ⟨_, rfl⟩
  rw [← hW3] at k0 k1 hE2 kb
  have h1 := lineOf_any a n cap l W3 (hS.kept kb) ⟨hF.len, hF.le, hF.max, hF.none, fun x hx i hi k hk => cell_kept kb (hF.cell x hx i hi k hk), fun i hi => isBytes_below (hF.bytes i hi) kb⟩
  rw [hc, show lineL l = lnC (padA l l.length) l.length by unfold lineL; rw [if_pos hc]] at h1
  have hplen : (padA l l.length).length = 32 := padA_len l l.length (Nat.le_refl _) (by obtain ⟨q, _⟩ := chk_ok hc; rw [List.length_map] at q; omega)
  have hnm := fun W (h : SizesAt W) => frName_any ⟨id, lo, fa, re, sz, dt⟩ va vl vc W h (Nat.le_trans hY.2.1 hY.2.2.1) hY.1
  unfold nameA at hnm
  rw [if_pos hE] at hnm
  generalize hPA : padA l l.length = PA at *
  generalize (l.length : Int) = NN at *
  have H1 := Hid.mk h1
  have HNM := Hid.mk hnm
  have K0 := Hid.mk k0
  have K1 := Hid.mk k1
  have K2 := Hid.mk hE2
  have KB := Hid.mk kb
  have HS := Hid.mk hS
  unfold frameV at HNM ⊢
  simp only at HNM
  subst hW3
  unfold frameC at H1 K0 K1 K2 KB
  clear hb0 hK0 hb1 hL1 hb2 hE2 k0 k1 hs1 hs2 kb h1 hnm hF hS hY hc hE hPA
  obtain ⟨nm, hnmv⟩ : ∃ nm, nm = nameL ⟨id, lo, fa, re, sz, dt⟩ := ⟨_, rfl⟩
  rw [← hnmv] at HNM
  have HNV := Hid.mk hnmv
  clear hnmv
  go_enter Tryd.func28, Tryd.ntmps28
  go_wp2_with fail
  refine H1.out.mono ?_
  rintro e w1 ⟨rfl, hb1⟩
  have hb12 := bl2 hb1 (below_zero w1)
  have KB1 := Hid.mk (bl2 KB.out hb12)
  have L1 := Hid.mk (K1.out.kept hb12)
  have L2 := Hid.mk (K2.out.kept hb12)
  have L0 := Hid.mk (K0.out.kept hb12)
  have hl1 : w.heap.size + 2 < w1.heap.size := by
    have h1 := hb1.size
    have h2 := K2.out.lt
    omega
  clear hb1 hb12
  go_wp2_with (first | ((with_reducible_and_instances refine wpl_store_line (.tmp 7) (.tmp 13) w1.heap.size (List.replicate 32 zE) PA 0 NN ?_ ?_ (LnAt.zero w1) hplen ?_); rfl; rfl; intro w5 hL5 hT5; have HL5 := Hid.mk hL5; have HT5 := Hid.mk hT5; obtain ⟨c0, c1, c2, c3, c4, c5⟩ := L0.out.tch hT5 (by simp; omega); clear hL5 hT5))
  have HB5 := Hid.mk (Tch.below KB1.out HT5.out (by simp; omega) (Nat.le_refl _))
  refine (HNM.out _ (HS.out.kept HB5.out)).mono ?_
  rintro e w6 ⟨rfl, hb6⟩
  have HB6 := Hid.mk (bl2 HB5.out hb6)
  have HL6 := Hid.mk (HL5.out.kept hb6)
  have M1 := Hid.mk ((L1.out.tch HT5.out (by simp; omega)).kept hb6)
  have M2 := Hid.mk ((L2.out.tch HT5.out (by simp; omega)).kept hb6)
  have M0 := Hid.mk ((L0.out.tch HT5.out (by simp; omega)).kept hb6)
  clear hb6 c0 c1 c2 c3 c4 c5
  go_wp2_with fail
  refine wp_region_held_drew (S := fun W => LnAt W w1.heap.size PA NN ∧ FrAt W w.heap.size id lo fa re sz va vl vc) (by kernel_rfl) ⟨⟨HL6.out.len, HL6.out.row⟩, M0.out.kept ⟨rfl, rfl, rfl, Nat.le_refl _, fun _ _ => rfl⟩⟩ (fun hHeld => ?_)
  refine wpAnyH_take (i := 0) rfl (by kernel_rfl) (by kernel_rfl) (by kernel_rfl) (fun _ _ _ h => h) (yieldsIf_load_mid (by rfl) _ _ rfl _ _ rfl _ _ (fun W hW => range_line hW.1) Tryd.underlying55 rfl (by rw [line_info, lnC_len, hplen])) hHeld ?_
  simp only [List.getElem_toArray, List.getElem_cons_zero, Act.put, List.setIfInBounds_toArray, List.set_cons_zero, List.set_cons_succ]
  refine wpAnyH_take (i := 1) (v := .string ⟨nm.toArray⟩) rfl (by kernel_rfl) (by kernel_rfl) (by kernel_rfl) (fun _ _ _ h => h) (Or.inl ⟨by rfl, fun _ _ => rfl⟩) hHeld ?_
  simp only [List.getElem_toArray, List.getElem_cons_zero, List.getElem_cons_succ, Act.put, List.setIfInBounds_toArray, List.set_cons_zero, List.set_cons_succ]
  refine wpAnyH_take (i := 2) rfl (by kernel_rfl) (by kernel_rfl) (by kernel_rfl) (fun _ _ _ h => h) (yieldsIf_load_mid (by rfl) _ _ rfl _ _ rfl _ _ (fun W hW => range_fr hW.2) Tryd.underlying25 rfl fr_info) hHeld ?_
  simp only [List.getElem_toArray, List.getElem_cons_zero, List.getElem_cons_succ, Act.put, List.setIfInBounds_toArray, List.set_cons_zero, List.set_cons_succ]
  refine wpAnyH_take (i := 3) (v := .agg (Ent.cells ⟨nm, ⟨⟨id, lo, fa, re, sz, dt⟩, va, vl, vc⟩⟩).toArray) rfl (by kernel_rfl) (by kernel_rfl) (by kernel_rfl) (fun _ _ _ h => h) (Or.inl ⟨by rfl, fun W hW => by clear hW hHeld; go_simp; rfl⟩) hHeld ?_
  simp only [List.getElem_toArray, List.getElem_cons_zero, List.getElem_cons_succ, Act.put, List.setIfInBounds_toArray, List.set_cons_zero, List.set_cons_succ]
  refine wpAnyH_ready (rs := [4]) (by kernel_rfl) (by simp) ?_
  refine AllReadyH.cons rfl (fun K hK => ?_) AllReadyH.nil
  rw [if_pos (by rfl)]
  refine wp_store_line (.tmp 4) (.tmp 30) rfl (w.heap.size + 1) (List.replicate 32 zE) PA 0 NN rfl rfl ⟨M1.out.len, M1.out.row⟩ hplen ?_
  intro w7 hL7 hT7
  refine hK.out _ _ ⟨hHeld.1.tch hT7 (by simp; omega), hHeld.2.tch hT7 (by simp)⟩ (fun hHeld7 => ?_)
  clear hK K
  simp only [List.getElem_toArray, List.getElem_cons_zero, List.getElem_cons_succ, Act.put]
  refine wpAnyH_ready (rs := [5]) (by kernel_rfl) (by simp) ?_
  refine AllReadyH.cons rfl (fun K hK => ?_) AllReadyH.nil
  rw [if_pos (by rfl)]
  refine wp_store_own (.tmp 5) (.tmp 33) rfl (w.heap.size + 2) zE ⟨nm, ⟨⟨id, lo, fa, re, sz, dt⟩, va, vl, vc⟩⟩ rfl rfl (EnAt.tch (w := w6.drew) M2.out hT7 (by simp)) ?_
  intro w8 hE8 hT8
  refine hK.out _ _ ⟨hHeld7.1.tch hT8 (by simp; omega), hHeld7.2.tch hT8 (by simp)⟩ (fun hHeld8 => ?_)
  clear hK K
  simp only [List.getElem_toArray, List.getElem_cons_zero, List.getElem_cons_succ, Act.put]
  refine wpAnyH_take (i := 6) (v := .int .i64 0) rfl (by kernel_rfl) (by kernel_rfl) (by kernel_rfl) (fun _ _ _ h => h) (Or.inl ⟨by rfl, fun _ _ => rfl⟩) hHeld8 ?_
  simp only [List.getElem_toArray, List.getElem_cons_zero, List.getElem_cons_succ, Act.put, List.setIfInBounds_toArray, List.set_cons_zero, List.set_cons_succ]
  refine wpAnyH_done (by kernel_rfl) ?_ _
  have hL8 := hL7.tch hT8 (by simp)
  have hB8 : Below w.heap.size w w8 := Tch.below (Tch.below (HB6.out.trans (show Below w.heap.size w6 w6.drew from ⟨rfl, rfl, rfl, Nat.le_refl _, fun _ _ => rfl⟩)) hT7 (by simp) (Nat.le_refl _)) hT8 (by simp) (Nat.le_refl _)
  have hEn : (⟨nm, ⟨⟨id, lo, fa, re, sz, dt⟩, va, vl, vc⟩⟩ : Ent) = entOf ⟨⟨id, lo, fa, re, sz, dt⟩, va, vl, vc⟩ := by rw [HNV.out]; rfl
  rw [hEn] at hE8
  go_wp2_with fail
  refine bodyPost_ret (le_results _ _ (w.heap.size + 1) (w.heap.size + 2) _ _ _ _ rfl rfl rfl hL8 hE8) rfl ?_
  exact ⟨rfl, hB8⟩
set_option maxHeartbeats 2000000 in
set_option maxRecDepth 100000 in
theorem le_badF (a : Option Addr) (n cap : Nat) (l : List FrV) (v : FrV) (w : World) (hS : SizesAt w) (hF : IsFrames w a n cap l) (hY : IsBytes w v.a v.len v.cap v.f.dt) (hc : chkQ (l.map (·.f)) = 0) (hE : frE v.f ≠ 0) :
    Calls Tryd.prog 28 #[.slice a n cap, frameV v.f.id v.f.lo v.f.fa v.f.re v.f.sz v.a v.len v.cap] w fun e w' => e = .returned (.tuple #[.agg (lnC (List.replicate 32 zE) 0).toArray, .agg zE.cells.toArray, .int .i64 (frE v.f)]) ∧ Below w.heap.size w w' := by
  obtain ⟨⟨id, lo, fa, re, sz, dt⟩, va, vl, vc⟩ := v
  simp only at hY hE ⊢
  have hb0 := below_box w id lo fa re sz va vl vc
  have hK0 := FrAt.box w id lo fa re sz va vl vc
  have hb1 := below_zero (w.alloc (frameC id lo fa re sz va vl vc))
  have hL1 := LnAt.zero (w.alloc (frameC id lo fa re sz va vl vc))
  have hb2 : Below ((w.alloc (frameC id lo fa re sz va vl vc)).alloc (Obj.cells Tryd.zeroCells55 55)).heap.size ((w.alloc (frameC id lo fa re sz va vl vc)).alloc (Obj.cells Tryd.zeroCells55 55)) (((w.alloc (frameC id lo fa re sz va vl vc)).alloc (Obj.cells Tryd.zeroCells55 55)).alloc (Obj.cells zE.cells.toArray 52)) := (Below.refl _ _).alloc (Nat.le_refl _) _
  have hE2 := EnAt.new ((w.alloc (frameC id lo fa re sz va vl vc)).alloc (Obj.cells Tryd.zeroCells55 55)) zE
  have k0 := (hK0.kept hb1).kept hb2
  have k1 := hL1.kept hb2
  have hs1 : (w.alloc (frameC id lo fa re sz va vl vc)).heap.size = w.heap.size + 1 := by simp
  have hs2 : ((w.alloc (frameC id lo fa re sz va vl vc)).alloc (Obj.cells Tryd.zeroCells55 55)).heap.size = w.heap.size + 2 := by simp
  rw [hs1] at k1
  rw [hs2] at hE2
  have kb := bl2 (bl2 hb0 hb1) hb2
  obtain ⟨W3, hW3⟩ : ∃ W3, W3 = (((w.alloc (frameC id lo fa re sz va vl vc)).alloc (Obj.cells Tryd.zeroCells55 55)).alloc (Obj.cells zE.cells.toArray 52)) := ⟨_, rfl⟩
  rw [← hW3] at k0 k1 hE2 kb
  have h1 := lineOf_any a n cap l W3 (hS.kept kb) ⟨hF.len, hF.le, hF.max, hF.none, fun x hx i hi k hk => cell_kept kb (hF.cell x hx i hi k hk), fun i hi => isBytes_below (hF.bytes i hi) kb⟩
  rw [hc, show lineL l = lnC (padA l l.length) l.length by unfold lineL; rw [if_pos hc]] at h1
  have hplen : (padA l l.length).length = 32 := padA_len l l.length (Nat.le_refl _) (by obtain ⟨q, _⟩ := chk_ok hc; rw [List.length_map] at q; omega)
  have hnm := fun W (h : SizesAt W) => frName_any ⟨id, lo, fa, re, sz, dt⟩ va vl vc W h (Nat.le_trans hY.2.1 hY.2.2.1) hY.1
  unfold nameA at hnm
  rw [if_neg hE] at hnm
  have hne : (frE ⟨id, lo, fa, re, sz, dt⟩ != 0) = true := by simpa using hE
  generalize hPA : padA l l.length = PA at *
  generalize (l.length : Int) = NN at *
  have H1 := Hid.mk h1
  have HNM := Hid.mk hnm
  have K0 := Hid.mk k0
  have K1 := Hid.mk k1
  have K2 := Hid.mk hE2
  have KB := Hid.mk kb
  have HS := Hid.mk hS
  unfold frameV at HNM ⊢
  simp only at HNM
  subst hW3
  unfold frameC at H1 K0 K1 K2 KB
  clear hb0 hK0 hb1 hL1 hb2 hE2 k0 k1 hs1 hs2 kb h1 hnm hF hS hY hc hE hPA
  generalize frE ⟨id, lo, fa, re, sz, dt⟩ = ce at *
  go_enter Tryd.func28, Tryd.ntmps28
  go_wp2_with fail
  refine H1.out.mono ?_
  rintro e w1 ⟨rfl, hb1⟩
  have hb12 := bl2 hb1 (below_zero w1)
  have KB1 := Hid.mk (bl2 KB.out hb12)
  have L1 := Hid.mk (K1.out.kept hb12)
  have L2 := Hid.mk (K2.out.kept hb12)
  have L0 := Hid.mk (K0.out.kept hb12)
  have hl1 : w.heap.size + 2 < w1.heap.size := by
    have h1 := hb1.size
    have h2 := K2.out.lt
    omega
  clear hb1 hb12
  go_wp2_with (first | ((with_reducible_and_instances refine wpl_store_line (.tmp 7) (.tmp 13) w1.heap.size (List.replicate 32 zE) PA 0 NN ?_ ?_ (LnAt.zero w1) hplen ?_); rfl; rfl; intro w5 hL5 hT5; have HL5 := Hid.mk hL5; have HT5 := Hid.mk hT5; obtain ⟨c0, c1, c2, c3, c4, c5⟩ := L0.out.tch hT5 (by simp; omega); clear hL5 hT5))
  have HB5 := Hid.mk (Tch.below KB1.out HT5.out (by simp; omega) (Nat.le_refl _))
  refine (HNM.out _ (HS.out.kept HB5.out)).mono ?_
  rintro e w6 ⟨rfl, hb6⟩
  have HB6 := Hid.mk (bl2 HB5.out hb6)
  have HL6 := Hid.mk (HL5.out.kept hb6)
  have M1 := Hid.mk ((L1.out.tch HT5.out (by simp; omega)).kept hb6)
  have M2 := Hid.mk ((L2.out.tch HT5.out (by simp; omega)).kept hb6)
  have M0 := Hid.mk ((L0.out.tch HT5.out (by simp; omega)).kept hb6)
  clear hb6 c0 c1 c2 c3 c4 c5
  go_wp2_with (first | ((with_reducible_and_instances refine wpl_store_zero (.tmp 4) (.tmp 27) (w.heap.size + 1) (List.replicate 32 zE) 0 ?_ ?_ M1.out ?_); rfl; rfl; intro w7 hL7 hT7; have HL7 := Hid.mk hL7; have HT7 := Hid.mk hT7; clear hL7 hT7) | ((with_reducible_and_instances refine wpl_store_own (.tmp 5) (.tmp 28) (w.heap.size + 2) zE zE ?_ ?_ (M2.out.tch HT7.out (by simp)) ?_); rfl; rfl; intro w8 hE8 hT8))
  have hB8 : Below w.heap.size w w8 := Tch.below (Tch.below HB6.out HT7.out (by simp) (Nat.le_refl _)) hT8 (by simp) (Nat.le_refl _)
  refine bodyPost_ret (le_results _ _ (w.heap.size + 1) (w.heap.size + 2) _ _ _ _ rfl rfl rfl (HL7.out.tch hT8 (by simp)) hE8) rfl ?_
  exact ⟨rfl, hB8⟩
set_option maxHeartbeats 2000000 in
set_option maxRecDepth 100000 in
theorem le_badQ (a : Option Addr) (n cap : Nat) (l : List FrV) (v : FrV) (w : World) (hS : SizesAt w) (hF : IsFrames w a n cap l) (hc : chkQ (l.map (·.f)) ≠ 0) :
    Calls Tryd.prog 28 #[.slice a n cap, frameV v.f.id v.f.lo v.f.fa v.f.re v.f.sz v.a v.len v.cap] w fun e w' => e = .returned (.tuple #[.agg (lnC (List.replicate 32 zE) 0).toArray, .agg zE.cells.toArray, .int .i64 (chkQ (l.map (·.f)))]) ∧ Below w.heap.size w w' := by
  obtain ⟨⟨id, lo, fa, re, sz, dt⟩, va, vl, vc⟩ := v
  simp only
  have hb0 := below_box w id lo fa re sz va vl vc
  have hb1 := below_zero (w.alloc (frameC id lo fa re sz va vl vc))
  have hL1 := LnAt.zero (w.alloc (frameC id lo fa re sz va vl vc))
  have hb2 : Below ((w.alloc (frameC id lo fa re sz va vl vc)).alloc (Obj.cells Tryd.zeroCells55 55)).heap.size ((w.alloc (frameC id lo fa re sz va vl vc)).alloc (Obj.cells Tryd.zeroCells55 55)) (((w.alloc (frameC id lo fa re sz va vl vc)).alloc (Obj.cells Tryd.zeroCells55 55)).alloc (Obj.cells zE.cells.toArray 52)) := (Below.refl _ _).alloc (Nat.le_refl _) _
  have hE2 := EnAt.new ((w.alloc (frameC id lo fa re sz va vl vc)).alloc (Obj.cells Tryd.zeroCells55 55)) zE
  have k1 := hL1.kept hb2
  have hs1 : (w.alloc (frameC id lo fa re sz va vl vc)).heap.size = w.heap.size + 1 := by simp
  have hs2 : ((w.alloc (frameC id lo fa re sz va vl vc)).alloc (Obj.cells Tryd.zeroCells55 55)).heap.size = w.heap.size + 2 := by simp
  rw [hs1] at k1
  rw [hs2] at hE2
  have kb := bl2 (bl2 hb0 hb1) hb2
  obtain ⟨W3, hW3⟩ : ∃ W3, W3 = (((w.alloc (frameC id lo fa re sz va vl vc)).alloc (Obj.cells Tryd.zeroCells55 55)).alloc (Obj.cells zE.cells.toArray 52)) := ⟨_, rfl⟩
  rw [← hW3] at k1 hE2 kb
  have h1 := lineOf_any a n cap l W3 (hS.kept kb) ⟨hF.len, hF.le, hF.max, hF.none, fun x hx i hi k hk => cell_kept kb (hF.cell x hx i hi k hk), fun i hi => isBytes_below (hF.bytes i hi) kb⟩
  rw [show lineL l = lnC (List.replicate 32 zE) 0 by unfold lineL; rw [if_neg hc]] at h1
  have hplen : (List.replicate 32 zE).length = 32 := by simp
  have hne : (chkQ (l.map (·.f)) != 0) = true := by simpa using hc
  generalize chkQ (l.map (·.f)) = ce at *
  have H1 := Hid.mk h1
  have K1 := Hid.mk k1
  have K2 := Hid.mk hE2
  have KB := Hid.mk kb
  unfold frameV
  subst hW3
  unfold frameC at H1 K1 K2 KB
  clear hb0 hb1 hL1 hb2 hE2 k1 hs1 hs2 kb h1 hF hS hc
  go_enter Tryd.func28, Tryd.ntmps28
  go_wp2_with fail
  refine H1.out.mono ?_
  rintro e w1 ⟨rfl, hb1⟩
  have hb12 := bl2 hb1 (below_zero w1)
  have KB1 := Hid.mk (bl2 KB.out hb12)
  have L1 := Hid.mk (K1.out.kept hb12)
  have L2 := Hid.mk (K2.out.kept hb12)
  have hl1 : w.heap.size + 2 < w1.heap.size := by
    have h1 := hb1.size
    have h2 := K2.out.lt
    omega
  clear hb1 hb12
  go_wp2_with (first | ((with_reducible_and_instances refine wpl_store_line (.tmp 7) (.tmp 13) w1.heap.size (List.replicate 32 zE) (List.replicate 32 zE) 0 0 ?_ ?_ (LnAt.zero w1) hplen ?_); rfl; rfl; intro w5 hL5 hT5; have M1 := Hid.mk (L1.out.tch hT5 (by simp; omega)); have M2 := Hid.mk (L2.out.tch hT5 (by simp; omega)); have HB6 := Hid.mk (Tch.below KB1.out hT5 (by simp; omega) (Nat.le_refl _)); clear hL5 hT5) | ((with_reducible_and_instances refine wpl_store_zero (.tmp 4) (.tmp 17) (w.heap.size + 1) (List.replicate 32 zE) 0 ?_ ?_ M1.out ?_); rfl; rfl; intro w7 hL7 hT7; have HL7 := Hid.mk hL7; have HT7 := Hid.mk hT7; clear hL7 hT7) | ((with_reducible_and_instances refine wpl_store_own (.tmp 5) (.tmp 18) (w.heap.size + 2) zE zE ?_ ?_ (M2.out.tch HT7.out (by simp)) ?_); rfl; rfl; intro w8 hE8 hT8))
  have hB8 : Below w.heap.size w w8 := Tch.below (Tch.below HB6.out HT7.out (by simp) (Nat.le_refl _)) hT8 (by simp) (Nat.le_refl _)
  refine bodyPost_ret (le_results _ _ (w.heap.size + 1) (w.heap.size + 2) _ _ _ _ rfl rfl rfl (HL7.out.tch hT8 (by simp)) hE8) rfl ?_
  exact ⟨rfl, hB8⟩
end Bw
end Go.Proofs.YthdffdobkampaaaDoor
