/- Joined out of our texts: QOps, QEntry, QPut, QRef1, QSort1, QInsert, FrameSized, FrClone, QInsert2. -/
import Derived.Test.YthdffdobkampaaaDoorLawQueueRowPAB
import Derived.Deep.RegionHeld3
import Derived.Test.YthdffdobkampaaaDoorLawQueueRowRAM
import Derived.Test.YthdffdobkampaaaDoorLawQueueRowPAA
import Derived.Lib.QuietBelow
import Derived.Lib.Bytealg
import Derived.Laws.Externs
import Derived.Shelf.Spec.SlicesInsert
import Derived.Lib.AppendZerosOnto
import Derived.Test.YthdffdobkampaaaDoorLawQueueRowRAI
import Derived.SizedLaws
import Derived.Test.YthdffdobkampaaaDoorLawQueueRowRAB
import Derived.Lib.SliceRun
/- What queue.Check and queue.put answer. -/
namespace Go.Proofs.YthdffdobkampaaaDoor
open Go.ChangeShapes Go.WideShapes Go.ChangeAt Go.RowKit
namespace Bw
open Bm Cm
theorem LnAt.zero (W : World) : LnAt (W.alloc (Obj.cells Tryd.zeroCells55 55)) W.heap.size (List.replicate 32 zE) 0 := by
  have := LnAt.new W (List.replicate 32 zE) 0 (by simp)
  unfold lnO at this
  rw [← zero_line] at this
  exact this
theorem below_zero (W : World) : Below W.heap.size W (W.alloc (Obj.cells Tryd.zeroCells55 55)) := (Below.refl _ _).alloc (Nat.le_refl _) _
/-- whatever is told of it, it is a line -/
theorem lineL_shape (l : List FrV) : ∃ B m, lineL l = lnC B m ∧ B.length = 32 := by
  unfold lineL
  split
  · rename_i h
    obtain ⟨h1, _⟩ := chk_ok h
    rw [List.length_map] at h1
    exact ⟨_, _, rfl, padA_len l l.length (Nat.le_refl _) (by omega)⟩
  · exact ⟨_, _, rfl, by simp⟩
set_option maxHeartbeats 4000000 in
set_option maxRecDepth 100000 in
theorem check_qany (a : Option Addr) (n cap : Nat) (l : List FrV) (w : World) (hS : SizesAt w) (hF : IsFrames w a n cap l) :
    Calls Tryd.prog 13 #[.slice a n cap] w fun e w' => e = .returned (.int .i64 (chkQ (l.map (·.f)))) ∧ Below w.heap.size w w' := by
  have h1 := lineOf_any a n cap l w hS hF
  obtain ⟨B, m, hB, hlen⟩ := lineL_shape l
  rw [hB] at h1
  have H1 := Hid.mk h1
  clear h1 hB hS hF
  go_enter Tryd.func13, Tryd.ntmps13
  go_wp2_with fail
  refine H1.out.mono ?_
  rintro e w1 ⟨rfl, hb1⟩
  go_wp2_with (first | ((with_reducible_and_instances refine wpl_store_line (.tmp 3) (.tmp 8) w1.heap.size (List.replicate 32 zE) B 0 m ?_ ?_ (LnAt.zero w1) hlen ?_); rfl; rfl; intro w5 hL5 hT5))
  go_ret
  exact ⟨rfl, bl2 hb1 (Tch.below (below_zero w1) hT5 (by simp) (Nat.le_refl _))⟩
/-- frames in order behind one another -/
def putV (l : List FrV) (v : FrV) : List FrV := insAt l (atF (l.map (·.f)) v.f) v
theorem putV_f (l : List FrV) (v : FrV) : (putV l v).map (·.f) = putF (l.map (·.f)) v.f := by unfold putV putF; rw [insAt_map]
theorem putV_len (l : List FrV) (v : FrV) : (putV l v).length = l.length + 1 := insAt_len _ _ _
theorem withA_put (l : List FrV) (z : List Ent) (v : FrV) : withA (l.map entOf ++ z) l.length (entOf v) = (putV l v).map entOf ++ z.drop 1 := by
  unfold withA putV
  have hl : (l.map entOf).length = l.length := List.length_map _
  have e1 : (l.map entOf ++ z).take l.length = l.map entOf := by rw [← hl, List.take_left]
  have e2 : (l.map entOf ++ z).drop (l.length + 1) = z.drop 1 := by rw [← List.drop_drop, ← hl, List.drop_left]
  rw [e1, e2, insAt_map]
  congr 2
  unfold atA atF
  rw [List.length_map, List.map_append, List.map_map, List.map_map]
  refine atE_congr _ _ _ _ (fun j hj => ?_)
  have hj1 : j < (l.map ((fun x => x.name) ∘ entOf)).length := by simpa using hj
  rw [List.getD_eq_getElem?_getD, List.getD_eq_getElem?_getD, List.getElem?_append_left hj1]
  rfl
theorem with_line (l : List FrV) (z : List Ent) (v : FrV) (w : World) (hlz : l.length + z.length = 32) (hz : 0 < z.length) :
    Calls Tryd.prog 38 #[.agg (lnC (l.map entOf ++ z) l.length).toArray, .agg (entOf v).cells.toArray] w fun e w' => e = .returned (.agg (lnC ((putV l v).map entOf ++ z.drop 1) ((putV l v).length : Int)).toArray) ∧ Below w.heap.size w w' := by
  have h := with_any (l.map entOf ++ z) l.length (entOf v) w (by rw [List.length_append, List.length_map]; exact hlz) (by omega)
  rw [withA_put] at h
  rw [putV_len]
  exact h
theorem OwnFrs.mono {w : World} {b b' : Nat} {r : Value} {l : List FrV} (h : OwnFrs w b r l) (hb : b' ≤ b) : OwnFrs w b' r l := by
  refine ⟨?_, h.bytes, h.apart, fun v hv x hx => Nat.le_trans hb (h.fresh v hv x hx)⟩
  obtain ⟨h1, h2⟩ := h.row
  refine ⟨h1, ?_⟩
  rcases h2 with h2 | ⟨g, cap, cur, hv, hg, hh⟩
  · exact .inl h2
  · exact .inr ⟨g, cap, cur, hv, Nat.le_trans hb hg, hh⟩
theorem framesOf_any (l : List FrV) (z : List Ent) (w : World) (hlz : l.length + z.length = 32) (hY : ∀ v ∈ l, IsBytes w v.a v.len v.cap v.f.dt) (hE : ∀ v ∈ l, frE v.f = 0) :
    Calls Tryd.prog 30 #[.agg (lnC (l.map entOf ++ z) l.length).toArray] w fun e w' => ∃ r l', e = .returned r ∧ l'.map (·.f) = l.map (·.f) ∧ OwnFrs w' w.heap.size r l' ∧ Below w.heap.size w w' := by
  have hA : (l.map entOf ++ z).length = 32 := by rw [List.length_append, List.length_map]; exact hlz
  have hi : ∀ i (h : i < (l.map entOf ++ z).length) (h2 : i < l.length), (l.map entOf ++ z)[i].v = l[i] := by
    intro i h h2
    rw [List.getElem_append_left (by simpa using h2), List.getElem_map]; rfl
  refine (framesOf_A (l.map entOf ++ z) l.length w hA (by omega) ?_ ?_).mono ?_
  · intro i h h2; rw [hi i h h2]; exact hY _ (List.getElem_mem h2)
  · intro i h h2; rw [hi i h h2]; exact (frE_ok (hE _ (List.getElem_mem h2))).2.2.2.2.2.2.1
  · rintro e w' ⟨r, l', rfl, _, hf, ho, hb⟩
    refine ⟨r, l', rfl, ?_, ho.mono (Nat.le_succ _), hb⟩
    have hl : (l.map entOf).length = l.length := List.length_map _
    rw [hf, ← hl, List.take_left, List.map_map]; rfl
set_option maxHeartbeats 4000000 in
set_option maxRecDepth 100000 in
theorem put_full (l : List FrV) (z : List Ent) (v : FrV) (w : World) (hlz : l.length + z.length = 32) (hl : l.length = 16) :
    Calls Tryd.prog 29 #[.agg (lnC (l.map entOf ++ z) l.length).toArray, .agg (entOf v).cells.toArray] w fun e w' => e = .returned (.tuple #[.slice none 0 0, .int .i64 11]) ∧ Below w.heap.size w w' := by
  have hL0 := LnAt.new w (l.map entOf ++ z) l.length (by rw [List.length_append, List.length_map]; exact hlz)
  have hB0 : Below w.heap.size w (w.alloc (lnO (l.map entOf ++ z) l.length)) := (Below.refl _ _).alloc (Nat.le_refl _) _
  have hB1 : Below (w.alloc (lnO (l.map entOf ++ z) l.length)).heap.size (w.alloc (lnO (l.map entOf ++ z) l.length)) ((w.alloc (lnO (l.map entOf ++ z) l.length)).alloc (.cells (entOf v).cells.toArray 52)) := (Below.refl _ _).alloc (Nat.le_refl _) _
  have k0 := hL0.kept hB1
  have kB := bl2 hB0 hB1
  unfold lnO at k0 kB
  have c224 := k0.size
  have KB := Hid.mk kB
  clear hL0 hB0 hB1 k0 kB
  generalize (lnC (l.map entOf ++ z) l.length).toArray = C at *
  rw [hl] at c224
  go_enter Tryd.func29, Tryd.ntmps29
  go_wp2_with fail
  go_ret2
  exact ⟨rfl, KB.out⟩
set_option maxHeartbeats 1000000 in
set_option maxRecDepth 100000 in
theorem put_room (l : List FrV) (z : List Ent) (v : FrV) (w : World) (hlz : l.length + z.length = 32) (hl : l.length < 16) (hY : ∀ u ∈ l, IsBytes w u.a u.len u.cap u.f.dt) (hE : ∀ u ∈ l, frE u.f = 0) (hYv : IsBytes w v.a v.len v.cap v.f.dt) (hEv : frE v.f = 0) :
    Calls Tryd.prog 29 #[.agg (lnC (l.map entOf ++ z) l.length).toArray, .agg (entOf v).cells.toArray] w fun e w' => ∃ r l', e = .returned (.tuple #[r, .int .i64 0]) ∧ l'.map (·.f) = putF (l.map (·.f)) v.f ∧ OwnFrs w' w.heap.size r l' ∧ Below w.heap.size w w' := by
  have hA : (l.map entOf ++ z).length = 32 := by rw [List.length_append, List.length_map]; exact hlz
  have hL0 := LnAt.new w (l.map entOf ++ z) l.length hA
  have hB0 : Below w.heap.size w (w.alloc (lnO (l.map entOf ++ z) l.length)) := (Below.refl _ _).alloc (Nat.le_refl _) _
  have hs0 : (w.alloc (lnO (l.map entOf ++ z) l.length)).heap.size = w.heap.size + 1 := by simp
  have hE1 := EnAt.new (w.alloc (lnO (l.map entOf ++ z) l.length)) (entOf v)
  have hB1 : Below (w.alloc (lnO (l.map entOf ++ z) l.length)).heap.size (w.alloc (lnO (l.map entOf ++ z) l.length)) ((w.alloc (lnO (l.map entOf ++ z) l.length)).alloc (.cells (entOf v).cells.toArray 52)) := (Below.refl _ _).alloc (Nat.le_refl _) _
  have k0 := hL0.kept hB1
  have kB := bl2 hB0 hB1
  rw [hs0] at hE1
  unfold lnO at k0 kB hE1
  have c224 := k0.size
  have K0 := Hid.mk k0
  have K1 := Hid.mk hE1
  have KB := Hid.mk kB
  have hw := fun W => with_line l z v W hlz (by omega)
  have hfs := fun W h1 h2 => framesOf_any (putV l v) (z.drop 1) W (by rw [putV_len, List.length_drop]; omega) h1 h2
  have hmem : ∀ u, u ∈ putV l v → u = v ∨ u ∈ l := fun u hu => (insAt_mem l _ v u).1 hu
  have HPF := Hid.mk (putV_f l v)
  have HW := Hid.mk hw
  have HFS := Hid.mk hfs
  have hne : ¬ ((l.length : Int) = 16) := by omega
  have hneb : ((l.length : Int) == 16) = false := by simpa using hne
  have HYP := Hid.mk (show ∀ W, Below w.heap.size w W → (∀ u ∈ putV l v, IsBytes W u.a u.len u.cap u.f.dt) from fun W hb u hu => by
    rcases hmem u hu with rfl | hu
    · exact isBytes_below hYv hb
    · exact isBytes_below (hY u hu) hb)
  have HEP := Hid.mk (show ∀ u ∈ putV l v, frE u.f = 0 from fun u hu => by
    rcases hmem u hu with rfl | hu
    · exact hEv
    · exact hE u hu)
  clear hL0 hB0 hB1 hs0 hE1 k0 kB hw hfs hmem hY hE hYv hEv
  generalize hCe : (lnC (l.map entOf ++ z) l.length).toArray = C at *
  obtain ⟨N, hN⟩ : ∃ N, N = l.length := ⟨_, rfl⟩
  rw [← hN] at c224 hneb hne
  have HCE := Hid.mk hCe
  clear hCe hN
  generalize (lnC ((putV l v).map entOf ++ z.drop 1) ((putV l v).length : Int)).toArray = D at *
  go_enter Tryd.func29, Tryd.ntmps29
  go_wp2_with (first | ((with_reducible_and_instances refine wpl_load_line (.tmp 2) w.heap.size _ _ ?_ K0.out ?_); rfl; rw [HCE.out]) | ((with_reducible_and_instances refine wpl_load_own (.tmp 3) (w.heap.size + 1) (entOf v) ?_ K1.out ?_); rfl))
  refine (HW.out _).mono ?_
  rintro e w1 ⟨rfl, hb1⟩
  have hb01 := bl2 KB.out hb1
  go_wp2_with fail
  refine (HFS.out _ (HYP.out _ hb01) HEP.out).mono ?_
  rintro e w2 ⟨r, l', rfl, hf, ho, hb2⟩
  go_wp2_with fail
  go_ret2
  exact ⟨r, l', rfl, by rw [hf, HPF.out], ho.mono (by have := hb01.size; omega), bl2 hb01 hb2⟩
end Bw
end Go.Proofs.YthdffdobkampaaaDoor

/- What queue.lineAndEntry answers. -/
namespace Go.Proofs.YthdffdobkampaaaDoor
open Go.ChangeShapes Go.WideShapes Go.ChangeAt Go.RowKit
namespace Bw
open Bm Cm
/-- an entry of its own is stored -/
theorem wp_store_own {o : Oper} {a : Act} {w : World} {K : Act → World → Prop} {Q : Exit → Act → World → Prop} (x y : Operand) (ho : o.op = .store 52 x y) (b : Nat) (e e' : Ent) (hx : a.eval x = .pointer (some ⟨b, 0, none⟩)) (hy : a.eval y = .agg e'.cells.toArray) (hL : EnAt w b e)
    (h : ∀ w', EnAt w' b e' → Tch [b] w w' → K (a.put o.dst undef) w') : o.wp Tryd.prog a w K Q := by
  have hlen : e'.cells.length = 7 := rfl
  have hsz : e.cells.toArray.size = 7 := rfl
  have hset := set_row (o := 0) hL (by rw [hlen, hsz]; omega) (ent_one e')
  rw [Nat.zero_add, List.take_zero, List.nil_append, List.drop_of_length_le (by rw [hlen]; exact Nat.le_refl _), List.append_nil] at hset
  refine wp_store_mid 52 x y ho b 0 e'.cells.toArray hx hy (fun j hj => ⟨?_, frozen_of_row w b _ _ _ hL⟩) ent_info (all_oneCell_toArray (ent_one e')) ?_
  · have hj' : j < 7 := hj
    rw [cell_of_row w b _ _ _ _ hL]; rw [Array.getElem?_eq_getElem (by rw [hsz]; omega)]; rfl
  · show K _ (w.setCells b 0 e'.cells)
    rw [hset]
    exact h _ (setRow_heap w b _ _ _ _ hL) (tch_row _)
theorem wpl_store_own {ops : Array Oper} {rest : List Oper} {dst : Option Tmp} {ty : TypeId} {pos : String} {aft : Array Edge} {a : Act} {w : World} {Q : Exit → Act → World → Prop} (x y : Operand) (b : Nat) (e e' : Ent) (hx : a.eval x = .pointer (some ⟨b, 0, none⟩)) (hy : a.eval y = .agg e'.cells.toArray) (hL : EnAt w b e)
    (h : ∀ w', EnAt w' b e' → Tch [b] w w' → wpList Tryd.prog ops Q rest (a.put dst undef) w') :
    wpList Tryd.prog ops Q (Oper.mk dst (.store 52 x y) ty pos aft none :: rest) a w :=
  wpList_plain rfl fun _ hK => wp_store_own x y rfl b e e' hx hy hL fun w' h1 h2 => hK _ _ (h w' h1 h2)
/-- a whole line is stored, at the operation itself -/
theorem wp_store_line {o : Oper} {a : Act} {w : World} {K : Act → World → Prop} {Q : Exit → Act → World → Prop} (x y : Operand) (ho : o.op = .store 55 x y) (b : Nat) (A B : List Ent) (n m : Int) (hx : a.eval x = .pointer (some ⟨b, 0, none⟩)) (hy : a.eval y = .agg (lnC B m).toArray) (hL : LnAt w b A n) (hB : B.length = 32)
    (h : ∀ w', LnAt w' b B m → Tch [b] w w' → K (a.put o.dst undef) w') : o.wp Tryd.prog a w K Q := by
  have hsz := lnC_arr A n hL.len
  have hsz2 := lnC_arr B m hB
  have hlen : (lnC B m).length = 225 := by rw [lnC_len, hB]
  have hset := set_row (o := 0) hL.row (by rw [hlen, hsz]; omega) (lnC_one B m)
  rw [Nat.zero_add, List.take_zero, List.nil_append, List.drop_of_length_le (by rw [hlen]; simp [lnC_len, hL.len]), List.append_nil] at hset
  refine wp_store_mid 55 x y ho b 0 (lnC B m).toArray hx hy (fun j hj => ⟨?_, frozen_of_row w b _ _ _ hL.row⟩) (by rw [line_info, hsz2]) (all_oneCell_toArray (lnC_one B m)) ?_
  · rw [hsz2] at hj
    rw [cell_of_row w b _ _ _ _ hL.row]; rw [Array.getElem?_eq_getElem (by rw [hsz]; omega)]; rfl
  · show K _ (w.setCells b 0 (lnC B m))
    rw [hset]
    exact h _ ⟨hB, setRow_heap w b _ _ _ _ hL.row⟩ (tch_row _)
theorem range_line {w : World} {b : Nat} {A : List Ent} {n : Int} (h : LnAt w b A n) : w.rangeAt b 0 (lnC A n) := fun j v hv => by
  rw [Nat.zero_add, cell_of_row w b _ _ _ _ h.row, List.getElem?_toArray]; exact hv
theorem range_fr {w : World} {b : Nat} {id : Int} {lo fa re : Bool} {sz : Int} {a : Option Addr} {len cap : Nat} (h : FrAt w b id lo fa re sz a len cap) : w.rangeAt b 0 [.int .i64 id, .bool lo, .bool fa, .bool re, .int .i64 sz, .slice a len cap] := fun j v hv => by
  rw [Nat.zero_add]
  match j, hv with
  | 0, hv => cases hv; exact h.c0
  | 1, hv => cases hv; exact h.c1
  | 2, hv => cases hv; exact h.c2
  | 3, hv => cases hv; exact h.c3
  | 4, hv => cases hv; exact h.c4
  | 5, hv => cases hv; exact h.c5
theorem le_results (tmps : Array Value) (w : World) (b b' : Nat) (A : List Ent) (n : Int) (x : Ent) (y : Value) (hp : tmps.getD 4 undef = .pointer (some ⟨b, 0, none⟩)) (hq : tmps.getD 5 undef = .pointer (some ⟨b', 0, none⟩)) (hy : tmps.getD 6 undef = y) (h : LnAt w b A n) (h' : EnAt w b' x) :
    (results Tryd.f28 tmps).run Tryd.prog w = .ok (.tuple #[.agg (lnC A n).toArray, .agg x.cells.toArray, y]) w := by
  have hl := run_loadVar_row (P := Tryd.prog) w b 55 55 _ (0, 0) _ h.row Tryd.underlying55 rfl (by rw [line_info, lnC_arr _ _ h.len])
  have hl' := run_loadVar_row (P := Tryd.prog) w b' 52 52 _ (0, 0) _ h' Tryd.underlying52 rfl ent_info
  have hp' : tmps[4]?.getD undef = .pointer (some ⟨b, 0, none⟩) := by simpa using hp
  have hq' : tmps[5]?.getD undef = .pointer (some ⟨b', 0, none⟩) := by simpa using hq
  have hy' : tmps[6]?.getD undef = y := by simpa using hy
  simp [results, hp', hq', hy', asAddr, hl, hl']
theorem FrAt.tch {gs : List Nat} {w w' : World} {g : Nat} {id : Int} {lo fa re : Bool} {sz : Int} {a : Option Addr} {len cap : Nat} (h : FrAt w g id lo fa re sz a len cap) (ht : Tch gs w w') (hg : g ∉ gs) : FrAt w' g id lo fa re sz a len cap := by
  have hlt : g < w.heap.size := block_lt_of_cell h.c0
  have e : ∀ k, w'.cell? ⟨g, k, none⟩ = w.cell? ⟨g, k, none⟩ := fun k => by unfold World.cell?; rw [ht.block g hlt hg]
  exact ⟨by rw [e]; exact h.c0, by rw [e]; exact h.c1, by rw [e]; exact h.c2, by rw [e]; exact h.c3, by rw [e]; exact h.c4, by rw [e]; exact h.c5⟩
/-- what it answers: what is wrong, or a line and an entry -/
def leE (l : List FrV) (f : Fr) : Int := if chkQ (l.map (·.f)) = 0 then frE f else chkQ (l.map (·.f))
set_option maxHeartbeats 2000000 in
set_option maxRecDepth 100000 in
theorem le_ok (a : Option Addr) (n cap : Nat) (l : List FrV) (v : FrV) (w : World) (hS : SizesAt w) (hF : IsFrames w a n cap l) (hY : IsBytes w v.a v.len v.cap v.f.dt) (hc : chkQ (l.map (·.f)) = 0) (hE : frE v.f = 0) :
    Calls Tryd.prog 28 #[.slice a n cap, frameV v.f.id v.f.lo v.f.fa v.f.re v.f.sz v.a v.len v.cap] w fun e w' => e = .returned (.tuple #[.agg (lnC (padA l l.length) l.length).toArray, .agg (entOf v).cells.toArray, .int .i64 0]) ∧ Below w.heap.size w w' := by
  obtain ⟨⟨id, lo, fa, re, sz, dt⟩, va, vl, vc⟩ := v
  simp only at hY hE ⊢
  have hb0 := below_box w id lo fa re sz va vl vc
  have hK0 := FrAt.box w id lo fa re sz va vl vc
  have hb1 := below_zero (w.alloc (frameC id lo fa re sz va vl vc))
  have hL1 := LnAt.zero (w.alloc (frameC id lo fa re sz va vl vc))
  have hb2 : Below ((w.alloc (frameC id lo fa re sz va vl vc)).alloc (Obj.cells Tryd.zeroCells55 55)).heap.size ((w.alloc (frameC id lo fa re sz va vl vc)).alloc (Obj.cells Tryd.zeroCells55 55)) (((w.alloc (frameC id lo fa re sz va vl vc)).alloc (Obj.cells Tryd.zeroCells55 55)).alloc (Obj.cells zE.cells.toArray 52)) := (Below.refl _ _).alloc (Nat.le_refl _) _
  have hE2 := EnAt.new ((w.alloc (frameC id lo fa re sz va vl vc)).alloc (Obj.cells Tryd.zeroCells55 55)) zE
  have k0 := (hK0.kept hb1).kept hb2
  have k1 := hL1.kept hb2
  have hs1 : (w.alloc (frameC id lo fa re sz va vl vc)).heap.size = w.heap.size + 1 := by simp
  have hs2 : ((w.alloc (frameC id lo fa re sz va vl vc)).alloc (Obj.cells Tryd.zeroCells55 55)).heap.size = w.heap.size + 2 := by simp
  rw [hs1] at k1
  rw [hs2] at hE2
  have kb := bl2 (bl2 hb0 hb1) hb2
  obtain ⟨W3, hW3⟩ : ∃ W3, W3 = (((w.alloc (frameC id lo fa re sz va vl vc)).alloc (Obj.cells Tryd.zeroCells55 55)).alloc (Obj.cells zE.cells.toArray 52)) := ⟨_, rfl⟩
  rw [← hW3] at k0 k1 hE2 kb
  have h1 := lineOf_any a n cap l W3 (hS.kept kb) ⟨hF.len, hF.le, hF.max, hF.none, fun x hx i hi k hk => cell_kept kb (hF.cell x hx i hi k hk), fun i hi => isBytes_below (hF.bytes i hi) kb⟩
  rw [hc, show lineL l = lnC (padA l l.length) l.length by unfold lineL; rw [if_pos hc]] at h1
  have hplen : (padA l l.length).length = 32 := padA_len l l.length (Nat.le_refl _) (by obtain ⟨q, _⟩ := chk_ok hc; rw [List.length_map] at q; omega)
  have hnm := fun W (h : SizesAt W) => frName_any ⟨id, lo, fa, re, sz, dt⟩ va vl vc W h (Nat.le_trans hY.2.1 hY.2.2.1) hY.1
  unfold nameA at hnm
  rw [if_pos hE] at hnm
  generalize hPA : padA l l.length = PA at *
  generalize (l.length : Int) = NN at *
  have H1 := Hid.mk h1
  have HNM := Hid.mk hnm
  have K0 := Hid.mk k0
  have K1 := Hid.mk k1
  have K2 := Hid.mk hE2
  have KB := Hid.mk kb
  have HS := Hid.mk hS
  unfold frameV at HNM ⊢
  simp only at HNM
  subst hW3
  unfold frameC at H1 K0 K1 K2 KB
  clear hb0 hK0 hb1 hL1 hb2 hE2 k0 k1 hs1 hs2 kb h1 hnm hF hS hY hc hE hPA
  obtain ⟨nm, hnmv⟩ : ∃ nm, nm = nameL ⟨id, lo, fa, re, sz, dt⟩ := ⟨_, rfl⟩
  rw [← hnmv] at HNM
  have HNV := Hid.mk hnmv
  clear hnmv
  go_enter Tryd.func28, Tryd.ntmps28
  go_wp2_with fail
  refine H1.out.mono ?_
  rintro e w1 ⟨rfl, hb1⟩
  have hb12 := bl2 hb1 (below_zero w1)
  have KB1 := Hid.mk (bl2 KB.out hb12)
  have L1 := Hid.mk (K1.out.kept hb12)
  have L2 := Hid.mk (K2.out.kept hb12)
  have L0 := Hid.mk (K0.out.kept hb12)
  have hl1 : w.heap.size + 2 < w1.heap.size := by
    have h1 := hb1.size
    have h2 := K2.out.lt
    omega
  clear hb1 hb12
  go_wp2_with (first | ((with_reducible_and_instances refine wpl_store_line (.tmp 7) (.tmp 13) w1.heap.size (List.replicate 32 zE) PA 0 NN ?_ ?_ (LnAt.zero w1) hplen ?_); rfl; rfl; intro w5 hL5 hT5; have HL5 := Hid.mk hL5; have HT5 := Hid.mk hT5; obtain ⟨c0, c1, c2, c3, c4, c5⟩ := L0.out.tch hT5 (by simp; omega); clear hL5 hT5))
  have HB5 := Hid.mk (Tch.below KB1.out HT5.out (by simp; omega) (Nat.le_refl _))
  refine (HNM.out _ (HS.out.kept HB5.out)).mono ?_
  rintro e w6 ⟨rfl, hb6⟩
  have HB6 := Hid.mk (bl2 HB5.out hb6)
  have HL6 := Hid.mk (HL5.out.kept hb6)
  have M1 := Hid.mk ((L1.out.tch HT5.out (by simp; omega)).kept hb6)
  have M2 := Hid.mk ((L2.out.tch HT5.out (by simp; omega)).kept hb6)
  have M0 := Hid.mk ((L0.out.tch HT5.out (by simp; omega)).kept hb6)
  clear hb6 c0 c1 c2 c3 c4 c5
  go_wp2_with fail
  refine wp_region_held_drew (S := fun W => LnAt W w1.heap.size PA NN ∧ FrAt W w.heap.size id lo fa re sz va vl vc) (by kernel_rfl) ⟨⟨HL6.out.len, HL6.out.row⟩, M0.out.kept ⟨rfl, rfl, rfl, Nat.le_refl _, fun _ _ => rfl⟩⟩ (fun hHeld => ?_)
  refine wpAnyH_take (i := 0) rfl (by kernel_rfl) (by kernel_rfl) (by kernel_rfl) (fun _ _ _ h => h) (yieldsIf_load_mid (by rfl) _ _ rfl _ _ rfl _ _ (fun W hW => range_line hW.1) Tryd.underlying55 rfl (by rw [line_info, lnC_len, hplen])) hHeld ?_
  simp only [List.getElem_toArray, List.getElem_cons_zero, Act.put, List.setIfInBounds_toArray, List.set_cons_zero, List.set_cons_succ]
  refine wpAnyH_take (i := 1) (v := .string ⟨nm.toArray⟩) rfl (by kernel_rfl) (by kernel_rfl) (by kernel_rfl) (fun _ _ _ h => h) (Or.inl ⟨by rfl, fun _ _ => rfl⟩) hHeld ?_
  simp only [List.getElem_toArray, List.getElem_cons_zero, List.getElem_cons_succ, Act.put, List.setIfInBounds_toArray, List.set_cons_zero, List.set_cons_succ]
  refine wpAnyH_take (i := 2) rfl (by kernel_rfl) (by kernel_rfl) (by kernel_rfl) (fun _ _ _ h => h) (yieldsIf_load_mid (by rfl) _ _ rfl _ _ rfl _ _ (fun W hW => range_fr hW.2) Tryd.underlying25 rfl fr_info) hHeld ?_
  simp only [List.getElem_toArray, List.getElem_cons_zero, List.getElem_cons_succ, Act.put, List.setIfInBounds_toArray, List.set_cons_zero, List.set_cons_succ]
  refine wpAnyH_take (i := 3) (v := .agg (Ent.cells ⟨nm, ⟨⟨id, lo, fa, re, sz, dt⟩, va, vl, vc⟩⟩).toArray) rfl (by kernel_rfl) (by kernel_rfl) (by kernel_rfl) (fun _ _ _ h => h) (Or.inl ⟨by rfl, fun W hW => by clear hW hHeld; go_simp; rfl⟩) hHeld ?_
  simp only [List.getElem_toArray, List.getElem_cons_zero, List.getElem_cons_succ, Act.put, List.setIfInBounds_toArray, List.set_cons_zero, List.set_cons_succ]
  refine wpAnyH_ready (rs := [4]) (by kernel_rfl) (by simp) ?_
  refine AllReadyH.cons rfl (fun K hK => ?_) AllReadyH.nil
  rw [if_pos (by rfl)]
  refine wp_store_line (.tmp 4) (.tmp 30) rfl (w.heap.size + 1) (List.replicate 32 zE) PA 0 NN rfl rfl ⟨M1.out.len, M1.out.row⟩ hplen ?_
  intro w7 hL7 hT7
  refine hK.out _ _ ⟨hHeld.1.tch hT7 (by simp; omega), hHeld.2.tch hT7 (by simp)⟩ (fun hHeld7 => ?_)
  clear hK K
  simp only [List.getElem_toArray, List.getElem_cons_zero, List.getElem_cons_succ, Act.put]
  refine wpAnyH_ready (rs := [5]) (by kernel_rfl) (by simp) ?_
  refine AllReadyH.cons rfl (fun K hK => ?_) AllReadyH.nil
  rw [if_pos (by rfl)]
  refine wp_store_own (.tmp 5) (.tmp 33) rfl (w.heap.size + 2) zE ⟨nm, ⟨⟨id, lo, fa, re, sz, dt⟩, va, vl, vc⟩⟩ rfl rfl (EnAt.tch (w := w6.drew) M2.out hT7 (by simp)) ?_
  intro w8 hE8 hT8
  refine hK.out _ _ ⟨hHeld7.1.tch hT8 (by simp; omega), hHeld7.2.tch hT8 (by simp)⟩ (fun hHeld8 => ?_)
  clear hK K
  simp only [List.getElem_toArray, List.getElem_cons_zero, List.getElem_cons_succ, Act.put]
  refine wpAnyH_take (i := 6) (v := .int .i64 0) rfl (by kernel_rfl) (by kernel_rfl) (by kernel_rfl) (fun _ _ _ h => h) (Or.inl ⟨by rfl, fun _ _ => rfl⟩) hHeld8 ?_
  simp only [List.getElem_toArray, List.getElem_cons_zero, List.getElem_cons_succ, Act.put, List.setIfInBounds_toArray, List.set_cons_zero, List.set_cons_succ]
  refine wpAnyH_done (by kernel_rfl) ?_ _
  have hL8 := hL7.tch hT8 (by simp)
  have hB8 : Below w.heap.size w w8 := Tch.below (Tch.below (HB6.out.trans (show Below w.heap.size w6 w6.drew from ⟨rfl, rfl, rfl, Nat.le_refl _, fun _ _ => rfl⟩)) hT7 (by simp) (Nat.le_refl _)) hT8 (by simp) (Nat.le_refl _)
  have hEn : (⟨nm, ⟨⟨id, lo, fa, re, sz, dt⟩, va, vl, vc⟩⟩ : Ent) = entOf ⟨⟨id, lo, fa, re, sz, dt⟩, va, vl, vc⟩ := by rw [HNV.out]; rfl
  rw [hEn] at hE8
  go_wp2_with fail
  refine bodyPost_ret (le_results _ _ (w.heap.size + 1) (w.heap.size + 2) _ _ _ _ rfl rfl rfl hL8 hE8) rfl ?_
  exact ⟨rfl, hB8⟩
set_option maxHeartbeats 2000000 in
set_option maxRecDepth 100000 in
theorem le_badF (a : Option Addr) (n cap : Nat) (l : List FrV) (v : FrV) (w : World) (hS : SizesAt w) (hF : IsFrames w a n cap l) (hY : IsBytes w v.a v.len v.cap v.f.dt) (hc : chkQ (l.map (·.f)) = 0) (hE : frE v.f ≠ 0) :
    Calls Tryd.prog 28 #[.slice a n cap, frameV v.f.id v.f.lo v.f.fa v.f.re v.f.sz v.a v.len v.cap] w fun e w' => e = .returned (.tuple #[.agg (lnC (List.replicate 32 zE) 0).toArray, .agg zE.cells.toArray, .int .i64 (frE v.f)]) ∧ Below w.heap.size w w' := by
  obtain ⟨⟨id, lo, fa, re, sz, dt⟩, va, vl, vc⟩ := v
  simp only at hY hE ⊢
  have hb0 := below_box w id lo fa re sz va vl vc
  have hK0 := FrAt.box w id lo fa re sz va vl vc
  have hb1 := below_zero (w.alloc (frameC id lo fa re sz va vl vc))
  have hL1 := LnAt.zero (w.alloc (frameC id lo fa re sz va vl vc))
  have hb2 : Below ((w.alloc (frameC id lo fa re sz va vl vc)).alloc (Obj.cells Tryd.zeroCells55 55)).heap.size ((w.alloc (frameC id lo fa re sz va vl vc)).alloc (Obj.cells Tryd.zeroCells55 55)) (((w.alloc (frameC id lo fa re sz va vl vc)).alloc (Obj.cells Tryd.zeroCells55 55)).alloc (Obj.cells zE.cells.toArray 52)) := (Below.refl _ _).alloc (Nat.le_refl _) _
  have hE2 := EnAt.new ((w.alloc (frameC id lo fa re sz va vl vc)).alloc (Obj.cells Tryd.zeroCells55 55)) zE
  have k0 := (hK0.kept hb1).kept hb2
  have k1 := hL1.kept hb2
  have hs1 : (w.alloc (frameC id lo fa re sz va vl vc)).heap.size = w.heap.size + 1 := by simp
  have hs2 : ((w.alloc (frameC id lo fa re sz va vl vc)).alloc (Obj.cells Tryd.zeroCells55 55)).heap.size = w.heap.size + 2 := by simp
  rw [hs1] at k1
  rw [hs2] at hE2
  have kb := bl2 (bl2 hb0 hb1) hb2
  obtain ⟨W3, hW3⟩ : ∃ W3, W3 = (((w.alloc (frameC id lo fa re sz va vl vc)).alloc (Obj.cells Tryd.zeroCells55 55)).alloc (Obj.cells zE.cells.toArray 52)) := ⟨_, rfl⟩
  rw [← hW3] at k0 k1 hE2 kb
  have h1 := lineOf_any a n cap l W3 (hS.kept kb) ⟨hF.len, hF.le, hF.max, hF.none, fun x hx i hi k hk => cell_kept kb (hF.cell x hx i hi k hk), fun i hi => isBytes_below (hF.bytes i hi) kb⟩
  rw [hc, show lineL l = lnC (padA l l.length) l.length by unfold lineL; rw [if_pos hc]] at h1
  have hplen : (padA l l.length).length = 32 := padA_len l l.length (Nat.le_refl _) (by obtain ⟨q, _⟩ := chk_ok hc; rw [List.length_map] at q; omega)
  have hnm := fun W (h : SizesAt W) => frName_any ⟨id, lo, fa, re, sz, dt⟩ va vl vc W h (Nat.le_trans hY.2.1 hY.2.2.1) hY.1
  unfold nameA at hnm
  rw [if_neg hE] at hnm
  have hne : (frE ⟨id, lo, fa, re, sz, dt⟩ != 0) = true := by simpa using hE
  generalize hPA : padA l l.length = PA at *
  generalize (l.length : Int) = NN at *
  have H1 := Hid.mk h1
  have HNM := Hid.mk hnm
  have K0 := Hid.mk k0
  have K1 := Hid.mk k1
  have K2 := Hid.mk hE2
  have KB := Hid.mk kb
  have HS := Hid.mk hS
  unfold frameV at HNM ⊢
  simp only at HNM
  subst hW3
  unfold frameC at H1 K0 K1 K2 KB
  clear hb0 hK0 hb1 hL1 hb2 hE2 k0 k1 hs1 hs2 kb h1 hnm hF hS hY hc hE hPA
  generalize frE ⟨id, lo, fa, re, sz, dt⟩ = ce at *
  go_enter Tryd.func28, Tryd.ntmps28
  go_wp2_with fail
  refine H1.out.mono ?_
  rintro e w1 ⟨rfl, hb1⟩
  have hb12 := bl2 hb1 (below_zero w1)
  have KB1 := Hid.mk (bl2 KB.out hb12)
  have L1 := Hid.mk (K1.out.kept hb12)
  have L2 := Hid.mk (K2.out.kept hb12)
  have L0 := Hid.mk (K0.out.kept hb12)
  have hl1 : w.heap.size + 2 < w1.heap.size := by
    have h1 := hb1.size
    have h2 := K2.out.lt
    omega
  clear hb1 hb12
  go_wp2_with (first | ((with_reducible_and_instances refine wpl_store_line (.tmp 7) (.tmp 13) w1.heap.size (List.replicate 32 zE) PA 0 NN ?_ ?_ (LnAt.zero w1) hplen ?_); rfl; rfl; intro w5 hL5 hT5; have HL5 := Hid.mk hL5; have HT5 := Hid.mk hT5; obtain ⟨c0, c1, c2, c3, c4, c5⟩ := L0.out.tch hT5 (by simp; omega); clear hL5 hT5))
  have HB5 := Hid.mk (Tch.below KB1.out HT5.out (by simp; omega) (Nat.le_refl _))
  refine (HNM.out _ (HS.out.kept HB5.out)).mono ?_
  rintro e w6 ⟨rfl, hb6⟩
  have HB6 := Hid.mk (bl2 HB5.out hb6)
  have HL6 := Hid.mk (HL5.out.kept hb6)
  have M1 := Hid.mk ((L1.out.tch HT5.out (by simp; omega)).kept hb6)
  have M2 := Hid.mk ((L2.out.tch HT5.out (by simp; omega)).kept hb6)
  have M0 := Hid.mk ((L0.out.tch HT5.out (by simp; omega)).kept hb6)
  clear hb6 c0 c1 c2 c3 c4 c5
  go_wp2_with (first | ((with_reducible_and_instances refine wpl_store_zero (.tmp 4) (.tmp 27) (w.heap.size + 1) (List.replicate 32 zE) 0 ?_ ?_ M1.out ?_); rfl; rfl; intro w7 hL7 hT7; have HL7 := Hid.mk hL7; have HT7 := Hid.mk hT7; clear hL7 hT7) | ((with_reducible_and_instances refine wpl_store_own (.tmp 5) (.tmp 28) (w.heap.size + 2) zE zE ?_ ?_ (M2.out.tch HT7.out (by simp)) ?_); rfl; rfl; intro w8 hE8 hT8))
  have hB8 : Below w.heap.size w w8 := Tch.below (Tch.below HB6.out HT7.out (by simp) (Nat.le_refl _)) hT8 (by simp) (Nat.le_refl _)
  refine bodyPost_ret (le_results _ _ (w.heap.size + 1) (w.heap.size + 2) _ _ _ _ rfl rfl rfl (HL7.out.tch hT8 (by simp)) hE8) rfl ?_
  exact ⟨rfl, hB8⟩
set_option maxHeartbeats 2000000 in
set_option maxRecDepth 100000 in
theorem le_badQ (a : Option Addr) (n cap : Nat) (l : List FrV) (v : FrV) (w : World) (hS : SizesAt w) (hF : IsFrames w a n cap l) (hc : chkQ (l.map (·.f)) ≠ 0) :
    Calls Tryd.prog 28 #[.slice a n cap, frameV v.f.id v.f.lo v.f.fa v.f.re v.f.sz v.a v.len v.cap] w fun e w' => e = .returned (.tuple #[.agg (lnC (List.replicate 32 zE) 0).toArray, .agg zE.cells.toArray, .int .i64 (chkQ (l.map (·.f)))]) ∧ Below w.heap.size w w' := by
  obtain ⟨⟨id, lo, fa, re, sz, dt⟩, va, vl, vc⟩ := v
  simp only
  have hb0 := below_box w id lo fa re sz va vl vc
  have hb1 := below_zero (w.alloc (frameC id lo fa re sz va vl vc))
  have hL1 := LnAt.zero (w.alloc (frameC id lo fa re sz va vl vc))
  have hb2 : Below ((w.alloc (frameC id lo fa re sz va vl vc)).alloc (Obj.cells Tryd.zeroCells55 55)).heap.size ((w.alloc (frameC id lo fa re sz va vl vc)).alloc (Obj.cells Tryd.zeroCells55 55)) (((w.alloc (frameC id lo fa re sz va vl vc)).alloc (Obj.cells Tryd.zeroCells55 55)).alloc (Obj.cells zE.cells.toArray 52)) := (Below.refl _ _).alloc (Nat.le_refl _) _
  have hE2 := EnAt.new ((w.alloc (frameC id lo fa re sz va vl vc)).alloc (Obj.cells Tryd.zeroCells55 55)) zE
  have k1 := hL1.kept hb2
  have hs1 : (w.alloc (frameC id lo fa re sz va vl vc)).heap.size = w.heap.size + 1 := by simp
  have hs2 : ((w.alloc (frameC id lo fa re sz va vl vc)).alloc (Obj.cells Tryd.zeroCells55 55)).heap.size = w.heap.size + 2 := by simp
  rw [hs1] at k1
  rw [hs2] at hE2
  have kb := bl2 (bl2 hb0 hb1) hb2
  obtain ⟨W3, hW3⟩ : ∃ W3, W3 = (((w.alloc (frameC id lo fa re sz va vl vc)).alloc (Obj.cells Tryd.zeroCells55 55)).alloc (Obj.cells zE.cells.toArray 52)) := ⟨_, rfl⟩
  rw [← hW3] at k1 hE2 kb
  have h1 := lineOf_any a n cap l W3 (hS.kept kb) ⟨hF.len, hF.le, hF.max, hF.none, fun x hx i hi k hk => cell_kept kb (hF.cell x hx i hi k hk), fun i hi => isBytes_below (hF.bytes i hi) kb⟩
  rw [show lineL l = lnC (List.replicate 32 zE) 0 by unfold lineL; rw [if_neg hc]] at h1
  have hplen : (List.replicate 32 zE).length = 32 := by simp
  have hne : (chkQ (l.map (·.f)) != 0) = true := by simpa using hc
  generalize chkQ (l.map (·.f)) = ce at *
  have H1 := Hid.mk h1
  have K1 := Hid.mk k1
  have K2 := Hid.mk hE2
  have KB := Hid.mk kb
  unfold frameV
  subst hW3
  unfold frameC at H1 K1 K2 KB
  clear hb0 hb1 hL1 hb2 hE2 k1 hs1 hs2 kb h1 hF hS hc
  go_enter Tryd.func28, Tryd.ntmps28
  go_wp2_with fail
  refine H1.out.mono ?_
  rintro e w1 ⟨rfl, hb1⟩
  have hb12 := bl2 hb1 (below_zero w1)
  have KB1 := Hid.mk (bl2 KB.out hb12)
  have L1 := Hid.mk (K1.out.kept hb12)
  have L2 := Hid.mk (K2.out.kept hb12)
  have hl1 : w.heap.size + 2 < w1.heap.size := by
    have h1 := hb1.size
    have h2 := K2.out.lt
    omega
  clear hb1 hb12
  go_wp2_with (first | ((with_reducible_and_instances refine wpl_store_line (.tmp 7) (.tmp 13) w1.heap.size (List.replicate 32 zE) (List.replicate 32 zE) 0 0 ?_ ?_ (LnAt.zero w1) hplen ?_); rfl; rfl; intro w5 hL5 hT5; have M1 := Hid.mk (L1.out.tch hT5 (by simp; omega)); have M2 := Hid.mk (L2.out.tch hT5 (by simp; omega)); have HB6 := Hid.mk (Tch.below KB1.out hT5 (by simp; omega) (Nat.le_refl _)); clear hL5 hT5) | ((with_reducible_and_instances refine wpl_store_zero (.tmp 4) (.tmp 17) (w.heap.size + 1) (List.replicate 32 zE) 0 ?_ ?_ M1.out ?_); rfl; rfl; intro w7 hL7 hT7; have HL7 := Hid.mk hL7; have HT7 := Hid.mk hT7; clear hL7 hT7) | ((with_reducible_and_instances refine wpl_store_own (.tmp 5) (.tmp 18) (w.heap.size + 2) zE zE ?_ ?_ (M2.out.tch HT7.out (by simp)) ?_); rfl; rfl; intro w8 hE8 hT8))
  have hB8 : Below w.heap.size w w8 := Tch.below (Tch.below HB6.out HT7.out (by simp) (Nat.le_refl _)) hT8 (by simp) (Nat.le_refl _)
  refine bodyPost_ret (le_results _ _ (w.heap.size + 1) (w.heap.size + 2) _ _ _ _ rfl rfl rfl (HL7.out.tch hT8 (by simp)) hE8) rfl ?_
  exact ⟨rfl, hB8⟩
end Bw
end Go.Proofs.YthdffdobkampaaaDoor

/- What queue.Put answers. -/
namespace Go.Proofs.YthdffdobkampaaaDoor
open Go.ChangeShapes Go.WideShapes Go.ChangeAt Go.RowKit
namespace Bw
open Bm Cm
theorem IsFrames.kept {w w' : World} {a : Option Addr} {n cap : Nat} {l : List FrV} (h : IsFrames w a n cap l) (hb : Below w.heap.size w w') : IsFrames w' a n cap l :=
  ⟨h.len, h.le, h.max, h.none, fun x hx i hi k hk => cell_kept hb (h.cell x hx i hi k hk), fun i hi => isBytes_below (h.bytes i hi) hb⟩
theorem IsFrames.all {w : World} {a : Option Addr} {n cap : Nat} {l : List FrV} (h : IsFrames w a n cap l) : ∀ v ∈ l, IsBytes w v.a v.len v.cap v.f.dt := by
  intro v hv
  obtain ⟨j, hj, rfl⟩ := List.mem_iff_getElem.1 hv
  exact h.bytes j hj
theorem padA_all (l : List FrV) : padA l l.length = l.map entOf ++ List.replicate (32 - l.length) zE := by unfold padA; rw [List.take_length]
/-- lineAndEntry's answer, whatever it is -/
theorem le_any (a : Option Addr) (n cap : Nat) (l : List FrV) (v : FrV) (w : World) (hS : SizesAt w) (hF : IsFrames w a n cap l) (hY : IsBytes w v.a v.len v.cap v.f.dt) :
    Calls Tryd.prog 28 #[.slice a n cap, frameV v.f.id v.f.lo v.f.fa v.f.re v.f.sz v.a v.len v.cap] w fun e w' => ∃ B m x, e = .returned (.tuple #[.agg (lnC B m).toArray, .agg x.cells.toArray, .int .i64 (leE l v.f)]) ∧ B.length = 32 ∧ (leE l v.f = 0 → B = padA l l.length ∧ m = l.length ∧ x = entOf v) ∧ Below w.heap.size w w' := by
  by_cases hc : chkQ (l.map (·.f)) = 0
  · have e0 : leE l v.f = frE v.f := by unfold leE; rw [if_pos hc]
    rw [e0]
    by_cases hE : frE v.f = 0
    · refine (le_ok a n cap l v w hS hF hY hc hE).mono ?_
      rintro e w' ⟨rfl, hb⟩
      exact ⟨_, _, _, by rw [hE], padA_len l l.length (Nat.le_refl _) (by obtain ⟨q, _⟩ := chk_ok hc; rw [List.length_map] at q; omega), fun _ => ⟨rfl, rfl, rfl⟩, hb⟩
    · refine (le_badF a n cap l v w hS hF hY hc hE).mono ?_
      rintro e w' ⟨rfl, hb⟩
      exact ⟨_, _, _, rfl, by simp, fun h => absurd h hE, hb⟩
  · have e0 : leE l v.f = chkQ (l.map (·.f)) := by unfold leE; rw [if_neg hc]
    rw [e0]
    refine (le_badQ a n cap l v w hS hF hc).mono ?_
    rintro e w' ⟨rfl, hb⟩
    exact ⟨_, _, _, rfl, by simp, fun h => absurd h hc, hb⟩
theorem two_new (W T : World) (hT : T = (W.alloc (Obj.cells Tryd.zeroCells55 55)).alloc (Obj.cells #[.string ⟨#[]⟩, .int .i64 0, .bool false, .bool false, .bool false, .int .i64 0, .slice none 0 0] 52)) : LnAt T W.heap.size (List.replicate 32 zE) 0 ∧ EnAt T (W.heap.size + 1) zE ∧ Below W.heap.size W T := by
  have hb : Below (W.alloc (Obj.cells Tryd.zeroCells55 55)).heap.size (W.alloc (Obj.cells Tryd.zeroCells55 55)) T := by rw [hT]; exact (Below.refl _ _).alloc (Nat.le_refl _) _
  have hs : (W.alloc (Obj.cells Tryd.zeroCells55 55)).heap.size = W.heap.size + 1 := by simp
  have h2 := EnAt.new (W.alloc (Obj.cells Tryd.zeroCells55 55)) zE
  rw [hs] at h2
  exact ⟨(LnAt.zero W).kept hb, by rw [hT]; exact h2, bl2 (below_zero W) hb⟩
def putE (l : List FrV) (f : Fr) : Int := if leE l f = 0 then (if l.length = 16 then 11 else 0) else leE l f
/-- put's answer, whatever it is -/
theorem put_any (l : List FrV) (v : FrV) (w : World) (hq : leE l v.f = 0) (hY : ∀ u ∈ l, IsBytes w u.a u.len u.cap u.f.dt) (hYv : IsBytes w v.a v.len v.cap v.f.dt) :
    Calls Tryd.prog 29 #[.agg (lnC (padA l l.length) l.length).toArray, .agg (entOf v).cells.toArray] w fun e w' => ∃ r l', e = .returned (.tuple #[r, .int .i64 (putE l v.f)]) ∧ OwnFrs w' w.heap.size r l' ∧ (putE l v.f = 0 → l'.map (·.f) = putF (l.map (·.f)) v.f) ∧ (putE l v.f ≠ 0 → r = .slice none 0 0 ∧ l' = []) ∧ Below w.heap.size w w' := by
  have hc : chkQ (l.map (·.f)) = 0 := by
    unfold leE at hq
    split at hq
    · rename_i h; exact h
    · rename_i h; exact absurd hq h
  have hE : frE v.f = 0 := by unfold leE at hq; rw [if_pos hc] at hq; exact hq
  obtain ⟨q1, q2, _⟩ := chk_ok hc
  rw [List.length_map] at q1
  rw [padA_all]
  have hlz : l.length + (List.replicate (32 - l.length) zE).length = 32 := by rw [List.length_replicate]; omega
  by_cases h16 : l.length = 16
  · have e0 : putE l v.f = 11 := by unfold putE; rw [if_pos hq, if_pos h16]
    rw [e0]
    refine (put_full l _ v w hlz h16).mono ?_
    rintro e w' ⟨rfl, hb⟩
    exact ⟨_, [], rfl, OwnFrs.nil _ _, (fun h => absurd h (by decide)), fun _ => ⟨rfl, rfl⟩, hb⟩
  · have e0 : putE l v.f = 0 := by unfold putE; rw [if_pos hq, if_neg h16]
    rw [e0]
    refine (put_room l _ v w hlz (by omega) hY (fun u hu => q2 _ (List.mem_map_of_mem hu)) hYv hE).mono ?_
    rintro e w' ⟨r, l', rfl, hf, ho, hb⟩
    exact ⟨r, l', rfl, ho, fun _ => hf, fun h => absurd rfl h, hb⟩
set_option maxHeartbeats 1000000 in
set_option maxRecDepth 100000 in
theorem Put_any (a : Option Addr) (n cap : Nat) (l : List FrV) (v : FrV) (w : World) (hS : SizesAt w) (hF : IsFrames w a n cap l) (hY : IsBytes w v.a v.len v.cap v.f.dt) :
    Calls Tryd.prog 8 #[.slice a n cap, frameV v.f.id v.f.lo v.f.fa v.f.re v.f.sz v.a v.len v.cap] w fun e w' => ∃ r l', e = .returned (.tuple #[r, .int .i64 (putE l v.f)]) ∧ OwnFrs w' w.heap.size r l' ∧ (putE l v.f = 0 → l'.map (·.f) = putF (l.map (·.f)) v.f) ∧ (putE l v.f ≠ 0 → r = .slice none 0 0 ∧ l' = []) ∧ Below w.heap.size w w' := by
  have hb0 := below_box w v.f.id v.f.lo v.f.fa v.f.re v.f.sz v.a v.len v.cap
  have h1 := le_any a n cap l v _ (hS.kept hb0) (hF.kept hb0) (isBytes_below hY hb0)
  have hYl := hF.all
  have h2 := fun W hq hb => put_any l v W hq (fun u hu => isBytes_below (hYl u hu) hb) (isBytes_below hY hb)
  have hput : leE l v.f ≠ 0 → putE l v.f = leE l v.f := fun h => by unfold putE; rw [if_neg h]
  have H1 := Hid.mk h1
  have H2 := Hid.mk h2
  have KB := Hid.mk hb0
  have HPT := Hid.mk hput
  unfold frameV at H1 ⊢
  unfold frameC at H1 KB
  clear hb0 h1 hYl h2 hS hF hY hput
  generalize putE l v.f = pe at *
  go_enter Tryd.func8, Tryd.ntmps8
  go_wp2_with fail
  refine H1.out.mono ?_
  rintro e w1 ⟨B, m, x, rfl, hBl, hok, hb1⟩
  obtain ⟨t0, t1, t2⟩ := two_new w1 _ rfl
  have KB1 := Hid.mk (bl2 KB.out (bl2 hb1 t2))
  have T0 := Hid.mk t0
  have T1 := Hid.mk t1
  have HOK := Hid.mk hok
  have hsz := (bl2 KB.out hb1).size
  have HLN := Hid.mk hsz
  clear hb1 t0 t1 t2 hok hsz
  by_cases hq : leE l v.f = 0
  · obtain ⟨rfl, rfl, rfl⟩ := HOK.out hq
    have H2q := Hid.mk (fun W hb => H2.out W hq hb)
    rw [hq]
    clear HOK H2 HPT hq
    go_wp2_with (first | ((with_reducible_and_instances refine wpl_store_line (.tmp 6) (.tmp 13) w1.heap.size (List.replicate 32 zE) (padA l l.length) 0 l.length ?_ ?_ T0.out hBl ?_); rfl; rfl; intro w5 hL5 hT5; have HL5 := Hid.mk hL5; have HT5 := Hid.mk hT5; clear hL5 hT5) | ((with_reducible_and_instances refine wpl_store_own (.tmp 7) (.tmp 14) (w1.heap.size + 1) zE (entOf v) ?_ ?_ (T1.out.tch HT5.out (by simp)) ?_); rfl; rfl; intro w6 hE6 hT6; have HE6 := Hid.mk hE6; have HL6 := Hid.mk (HL5.out.tch hT6 (by simp)); have HB6 := Hid.mk (Tch.below (Tch.below KB1.out HT5.out (by simp; exact HLN.out) (Nat.le_refl _)) hT6 (by simp; have := HLN.out; omega) (Nat.le_refl _)); clear hE6 hT6) | ((with_reducible_and_instances refine wpl_load_line (.tmp 6) w1.heap.size _ _ ?_ HL6.out ?_); rfl) | ((with_reducible_and_instances refine wpl_load_own (.tmp 7) (w1.heap.size + 1) (entOf v) ?_ HE6.out ?_); rfl))
    refine (H2q.out _ HB6.out).mono ?_
    rintro e w7 ⟨r, l', rfl, ho, hf, hn, hb7⟩
    go_wp2_with fail
    go_ret2
    exact ⟨r, l', rfl, ho.mono HB6.out.size, hf, hn, bl2 HB6.out hb7⟩
  · have hpe := HPT.out hq
    have hne : (leE l v.f != 0) = true := by simpa using hq
    generalize leE l v.f = le at *
    subst hpe
    go_wp2_with (first | ((with_reducible_and_instances refine wpl_store_line (.tmp 6) (.tmp 13) w1.heap.size (List.replicate 32 zE) B 0 m ?_ ?_ T0.out hBl ?_); rfl; rfl; intro w5 hL5 hT5; have HT5 := Hid.mk hT5; clear hL5 hT5) | ((with_reducible_and_instances refine wpl_store_own (.tmp 7) (.tmp 14) (w1.heap.size + 1) zE x ?_ ?_ (T1.out.tch HT5.out (by simp)) ?_); rfl; rfl; intro w6 hE6 hT6; have HB6 := Hid.mk (Tch.below (Tch.below KB1.out HT5.out (by simp; exact HLN.out) (Nat.le_refl _)) hT6 (by simp; have := HLN.out; omega) (Nat.le_refl _)); clear hE6 hT6))
    go_ret2
    exact ⟨_, [], rfl, OwnFrs.nil _ _, fun h => absurd h hq, fun _ => ⟨rfl, rfl⟩, HB6.out⟩
end Bw
end Go.Proofs.YthdffdobkampaaaDoor

/- What the document's own CheckQueue answers. -/
namespace Go.Proofs.YthdffdobkampaaaDoor
open Go.ChangeShapes Go.WideShapes Go.ChangeAt Go.RowKit
namespace Bw
open Bm Cm Go.Sort
theorem FrAt.regrownQ {w : World} {g : Nat} {id : Int} {lo fa re : Bool} {sz : Int} {a : Option Addr} {len cap : Nat} (h : FrAt w g id lo fa re sz a len cap) (d : Nat) (os : Array Obj) : FrAt (grow (redrawn w d) os) g id lo fa re sz a len cap := h.kept (below_regrown w d os)
theorem cell_reg {w : World} {x : Addr} {v : Value} (h : w.cell? x = some v) (d : Nat) (os : Array Obj) : (grow (redrawn w d) os).cell? x = some v := cell_kept (below_regrown w d os) h
set_option maxHeartbeats 2000000 in
set_option maxRecDepth 100000 in
theorem checkQueue_any (hCF : CheckF) (a : Option Addr) (n cap : Nat) (l : List FrV) (w : World) (hD : w.cell? ⟨4, 1, none⟩ = some (.int .u8 1)) (hF : IsFrames w a n cap l) :
    Calls Tryd.prog 11 #[.slice a n cap] w fun e w' => e = .returned (.int .i64 (chkQ (l.map (·.f)))) ∧ Below w.heap.size w w' := by
  have hmx : n ≤ maxLen := Nat.le_trans hF.le hF.max
  by_cases hm : 16 < n
  · have hc : chkQ (l.map (·.f)) = 2 := by unfold chkQ; rw [if_pos (by rw [List.length_map, hF.len]; exact hm)]
    rw [hc]
    have hm' : (16 : Int) < (n : Int) := by omega
    clear hF hc hD hCF
    go_enter Tryd.func11, Tryd.ntmps11
    go_wp2_with fail
    go_ret
    exact ⟨rfl, Below.refl _ _⟩
  · have hc : chkQ (l.map (·.f)) = chkK (l.map (·.f)) n := by unfold chkQ; rw [if_neg (by rw [List.length_map, hF.len]; omega), List.length_map, hF.len]
    have hm' : ¬ (16 : Int) < (n : Int) := by omega
    have HF := Hid.mk hF
    have HC := Hid.mk hc
    have HD := Hid.mk hD
    have HCF := Hid.mk hCF
    clear hF hc hD hCF
    go_enter Tryd.func11, Tryd.ntmps11
    go_wp2_with fail
    go_loopw [11] (fun i wr => ∃ (k : Nat), k ≤ n ∧ i = .int .i64 k ∧ Hid (chkK (l.map (·.f)) k = 0) ∧ Hid (Below w.heap.size w wr)) (fun i _ => n - (intOf i).toNat)
    case atStart => exact ⟨0, Nat.zero_le _, rfl, Hid.mk rfl, Hid.mk (Below.refl _ _)⟩
    case round =>
      obtain ⟨k, hk, rfl, HZ, HB⟩ := hrel
      by_cases hlt : k < n
      · have hlt' : (k : Int) < (n : Int) := by omega
        have hkl : k < l.length := by rw [HF.out.len]; exact hlt
        cases a with
        | none => exact absurd (HF.out.none rfl) (by omega)
        | some x =>
          have cc := fun (j : Nat) (hj : j < 6) => cell_kept HB.out (HF.out.cell x rfl k hkl j hj)
          have hby := isBytes_below (HF.out.bytes k hkl) (show Below w.heap.size w wr from HB.out)
          have hstep := chkK_next HZ.out
          have hst : stepQ (l.map (·.f)) k = if frE l[k].f ≠ 0 then frE l[k].f else if 0 < k ∧ Op.bytesLess (nameL l[k].f) (nameL ((l.map (·.f)).getD (k - 1) ⟨0, false, false, false, 0, []⟩)) = true then 4 else 0 := by
            unfold stepQ; rw [map_f l k hkl]
          have hbad : chkK (l.map (·.f)) (k + 1) ≠ 0 → chkQ (l.map (·.f)) = chkK (l.map (·.f)) (k + 1) := by
            intro h
            rw [HC.out]; exact chkK_stop h n (by omega)
          rw [hstep] at hbad
          have HBAD := Hid.mk hbad
          have HST := Hid.mk hst
          have HSTEP := Hid.mk hstep
          clear hbad hst hstep
          generalize hfk : l[k] = v at *
          obtain ⟨⟨id, lo, fa, re, sz, dt⟩, va, vl, vc⟩ := v
          have c0 := cc 0 (by omega)
          have c1 := cc 1 (by omega)
          have c2 := cc 2 (by omega)
          have c3 := cc 3 (by omega)
          have c4 := cc 4 (by omega)
          have c5 := cc 5 (by omega)
          rw [add_nextQ] at c1 c2 c3 c4 c5
          rw [Nat.add_zero] at c0
          simp only [FrV.cells, List.getElem_cons_zero, List.getElem_cons_succ, Nat.reduceAdd] at c0 c1 c2 c3 c4 c5
          simp only at hby
          have hbx := below_box wr id lo fa re sz va vl vc
          have hB2 := bl2 HB.out hbx
          have hcf := HCF.out.fr ⟨id, lo, fa, re, sz, dt⟩ va vl vc _ (isBytes_below hby hbx)
          have HK := Hid.mk (FrAt.box wr id lo fa re sz va vl vc)
          have HB2 := Hid.mk hB2
          simp only at hcf
          have HCK := Hid.mk hcf
          unfold frameC at HCK HK HB2
          unfold frameV at HCK
          clear cc hby hbx hB2 hcf
          by_cases hE : frE ⟨id, lo, fa, re, sz, dt⟩ = 0
          · rw [if_neg (show ¬ frE ⟨id, lo, fa, re, sz, dt⟩ ≠ 0 from fun h => h hE)] at HST
            have hid := frE_ok hE
            have HID := Hid.mk (show (0 : Int) ≤ id ∧ id ≤ topI lo from ⟨hid.1, hid.2.1⟩)
            rw [hE] at HCK
            clear hid
            go_wp2_with fail
            refine HCK.out.mono ?_
            rintro e w1 ⟨rfl, hb1⟩
            have HK1 := Hid.mk (HK.out.kept hb1)
            have HB3 := Hid.mk (bl2 HB2.out hb1)
            clear hb1 c0 c1 c2 c3 c4 c5 HK HB2 HCK
            by_cases h0 : 0 < k
            · have hkl1 : k - 1 < l.length := by omega
              have cc := fun (j : Nat) (hj : j < 6) => cell_kept HB3.out (HF.out.cell x rfl (k - 1) hkl1 j hj)
              have hE1 : frE l[k - 1].f = 0 := (stepQ_ok (by rw [List.length_map]; exact hkl1) (chkK_zero HZ.out (k - 1) (by omega))).1 |> fun h => by rw [List.getElem_map] at h; exact h
              rw [map_f l (k - 1) hkl1] at HST
              generalize l[k - 1] = u at *
              obtain ⟨⟨id', lo', fa', re', sz', dt'⟩, ua, ul, uc⟩ := u
              have d0 := cc 0 (by omega)
              have d1 := cc 1 (by omega)
              have d2 := cc 2 (by omega)
              have d3 := cc 3 (by omega)
              have d4 := cc 4 (by omega)
              have d5 := cc 5 (by omega)
              rw [add_nextQ] at d1 d2 d3 d4 d5
              rw [Nat.add_zero] at d0
              simp only [FrV.cells, List.getElem_cons_zero, List.getElem_cons_succ, Nat.reduceAdd] at d0 d1 d2 d3 d4 d5
              simp only at hE1 HST
              have hid' := frE_ok hE1
              have hn1 := fun W (hW : Below w.heap.size w W) => nameOf_any ⟨id, lo, fa, re, sz, dt⟩ va vl vc W (cell_kept hW HD.out) HID.out.1 HID.out.2
              have hn2 := fun W (hW : Below w.heap.size w W) => nameOf_any ⟨id', lo', fa', re', sz', dt'⟩ ua ul uc W (cell_kept hW HD.out) hid'.1 hid'.2.1
              have hbr := fun d os => bl2 HB3.out (below_regrown w1 d os)
              generalize nameL ⟨id, lo, fa, re, sz, dt⟩ = nm at *
              generalize nameL ⟨id', lo', fa', re', sz', dt'⟩ = pn at *
              have HN1 := Hid.mk hn1
              have HN2 := Hid.mk hn2
              have HBR := Hid.mk hbr
              unfold frameV at HN1 HN2
              simp only at HN1 HN2
              have rf0 := fun d os => (HK1.out.regrownQ d os).c0
              have rf1 := fun d os => (HK1.out.regrownQ d os).c1
              have rf2 := fun d os => (HK1.out.regrownQ d os).c2
              have rf3 := fun d os => (HK1.out.regrownQ d os).c3
              have rf4 := fun d os => (HK1.out.regrownQ d os).c4
              have rf5 := fun d os => (HK1.out.regrownQ d os).c5
              have rg0 := fun d os => cell_reg d0 d os
              have rg1 := fun d os => cell_reg d1 d os
              have rg2 := fun d os => cell_reg d2 d os
              have rg3 := fun d os => cell_reg d3 d os
              have rg4 := fun d os => cell_reg d4 d os
              have rg5 := fun d os => cell_reg d5 d os
              have hk1 : ((k : Int) - 1) = ((k - 1 : Nat) : Int) := by omega
              have hk2 : (((k - 1 : Nat) : Int)) < (n : Int) := by omega
              have hd0 : decide ((0 : Int) < (k : Int)) = true := by simp; omega
              clear cc hE1 hid' hn1 hn2 hbr d0 d1 d2 d3 d4 d5
              by_cases hl : Op.bytesLess nm pn = true
              · rw [if_pos ⟨h0, hl⟩] at HST
                have HH1 := Hid.mk ((HBAD.out (by rw [HST.out]; decide)).trans HST.out)
                go_wp2_with fail
                refine wp_region_quiet_below (by kernel_rfl) (by kernel_rfl) ?_
                repeat (go_big_quiet_step (first
                  | (go_at_call 19; with_reducible_and_instances exact Calls.regrown_of (HN1.out _ (HBR.out _ _)))
                  | (go_at_call 19; with_reducible_and_instances exact Calls.regrown_of (HN2.out _ (HBR.out _ _)))))
                refine wpQuiet_nil ?_
                intro _ hw'
                obtain ⟨⟨dq, osq⟩, hw''⟩ := hw'
                have hbq := below_regrown w1 dq osq
                rw [hw'']
                generalize grow (redrawn w1 dq) osq = w4 at *
                have HB4 := Hid.mk (bl2 HB3.out hbq)
                clear hw'' hbq HB3 HK1 rf0 rf1 rf2 rf3 rf4 rf5 rg0 rg1 rg2 rg3 rg4 rg5 HN1 HN2 HBR
                go_wp2_with fail
                go_ret
                exact ⟨by rw [HH1.out]; rfl, HB4.out⟩
              · rw [if_neg (fun h => hl h.2)] at HST
                go_wp2_with fail
                refine wp_region_quiet_below (by kernel_rfl) (by kernel_rfl) ?_
                repeat (go_big_quiet_step (first
                  | (go_at_call 19; with_reducible_and_instances exact Calls.regrown_of (HN1.out _ (HBR.out _ _)))
                  | (go_at_call 19; with_reducible_and_instances exact Calls.regrown_of (HN2.out _ (HBR.out _ _)))))
                refine wpQuiet_nil ?_
                intro _ hw'
                obtain ⟨⟨dq, osq⟩, hw''⟩ := hw'
                have hbq := below_regrown w1 dq osq
                rw [hw'']
                generalize grow (redrawn w1 dq) osq = w4 at *
                have HB4 := Hid.mk (bl2 HB3.out hbq)
                clear hw'' hbq HB3 HK1 rf0 rf1 rf2 rf3 rf4 rf5 rg0 rg1 rg2 rg3 rg4 rg5 HN1 HN2 HBR
                go_wp2_with fail
                go_roundw
                case rel => exact ⟨k + 1, by omega, by go_num, Hid.mk (HSTEP.out.trans HST.out), HB4⟩
                case measure => simp [intOf]; omega
            · obtain rfl : k = 0 := by omega
              rw [if_neg (fun h => absurd h.1 (Nat.lt_irrefl _))] at HST
              go_wp2_with fail
              go_quiet (fail)
              have HB4 := Hid.mk (HB3.out.trans (show Below w.heap.size w1 (w1.drewN nq) from ⟨rfl, rfl, rfl, Nat.le_refl _, fun _ _ => rfl⟩))
              go_wp2_with fail
              go_roundw
              case rel => exact ⟨0 + 1, by omega, by go_num, Hid.mk (HSTEP.out.trans HST.out), HB4⟩
              case measure => simp [intOf]; omega
          · rw [if_pos hE] at HST
            have hne : (frE ⟨id, lo, fa, re, sz, dt⟩ != 0) = true := by simpa using hE
            have HH1 := Hid.mk ((HBAD.out (by rw [HST.out]; exact hE)).trans HST.out)
            generalize frE ⟨id, lo, fa, re, sz, dt⟩ = ce at *
            go_wp2_with fail
            refine HCK.out.mono ?_
            rintro e w1 ⟨rfl, hb1⟩
            have HB3 := Hid.mk (bl2 HB2.out hb1)
            clear hb1 c0 c1 c2 c3 c4 c5
            go_wp2_with fail
            go_ret
            exact ⟨by rw [HH1.out]; rfl, HB3.out⟩
      · obtain rfl : k = n := by omega
        have HQ := Hid.mk (HC.out.trans HZ.out)
        go_wp2_with fail
        go_ret
        exact ⟨by rw [HQ.out]; rfl, HB.out⟩
end Bw
end Go.Proofs.YthdffdobkampaaaDoor

/- What strings.Compare answers, and QueueRow's way to compare two frames. -/
namespace Go.Proofs.YthdffdobkampaaaDoor
open Go.ChangeShapes Go.WideShapes Go.ChangeAt Go.RowKit
namespace Bw
open Bm Cm Go.Sort
theorem cmpB_lt : ∀ a b : List UInt8, decide (Lib.compareBytes a b < 0) = Op.bytesLess a b
  | [], [] => by simp [Lib.compareBytes, Op.bytesLess]
  | [], _ :: _ => by simp [Lib.compareBytes, Op.bytesLess]
  | _ :: _, [] => by simp [Lib.compareBytes, Op.bytesLess]
  | x :: a, y :: b => by
    unfold Lib.compareBytes
    by_cases h : x = y
    · subst h
      rw [if_neg (UInt8.lt_irrefl x), if_neg (UInt8.lt_irrefl x), cmpB_lt a b]
      simp [Op.bytesLess]
    · by_cases h1 : x < y
      · rw [if_pos h1]
        simp [Op.bytesLess, h1]
      · rw [if_neg h1]
        have h2 : y < x := by
          rcases Nat.lt_trichotomy x.toNat y.toNat with h3 | h3 | h3
          · exact absurd (UInt8.lt_iff_toNat_lt.2 h3) h1
          · exact absurd (UInt8.toNat_inj.1 h3) h
          · exact UInt8.lt_iff_toNat_lt.2 h3
        rw [if_pos h2]
        simp [Op.bytesLess, h1]
        exact fun e => absurd e h
set_option maxHeartbeats 1000000 in
theorem cmpStr_any (s1 s2 : ByteArray) (w : World) :
    Calls Tryd.prog 40 #[.string s1, .string s2] w fun e w' => e = .returned (.int .i64 (Lib.compareBytes s1.data.toList s2.data.toList)) ∧ w' = w := by
  have hcf : (callFunc 52 #[.string s1, .string s2]).run Tryd.prog w = .ok (.value (.int .i64 (Lib.compareBytes s1.data.toList s2.data.toList))) w := by
    rw [run_callFunc_extern Tryd.func52 (by kernel_rfl) (by kernel_rfl) (by kernel_rfl) (e := Extern.BytealgCompare.compare) (by kernel_rfl), Lib.run_compareString]
    rfl
  generalize Lib.compareBytes s1.data.toList s2.data.toList = q at *
  go_enter Tryd.func40, Tryd.ntmps40
  go_wp2_with (simp only [hcf])
  go_ret
  exact ⟨rfl, rfl⟩
set_option maxHeartbeats 1000000 in
theorem compare_anyQ (s1 s2 : List UInt8) (w : World) :
    Calls Tryd.prog 24 #[.string ⟨s1.toArray⟩, .string ⟨s2.toArray⟩] w fun e w' => e = .returned (.int .i64 (Lib.compareBytes s1 s2)) ∧ Below w.heap.size w w' := by
  have h1 := cmpStr_any ⟨s1.toArray⟩ ⟨s2.toArray⟩ w
  have e : Lib.compareBytes (ByteArray.mk s1.toArray).data.toList (ByteArray.mk s2.toArray).data.toList = Lib.compareBytes s1 s2 := rfl
  rw [e] at h1
  have H1 := Hid.mk h1
  clear h1 e
  go_enter Tryd.func24, Tryd.ntmps24
  go_wp2_with fail
  refine H1.out.mono ?_
  rintro e w1 ⟨rfl, rfl⟩
  go_wp2_with fail
  go_ret
  exact ⟨rfl, Below.refl _ _⟩
set_option maxHeartbeats 2000000 in
set_option maxRecDepth 100000 in
theorem cmpQ_any (v u : FrV) (w : World) (hD : w.cell? ⟨4, 1, none⟩ = some (.int .u8 1)) (hEv : frE v.f = 0) (hEu : frE u.f = 0) :
    Calls Tryd.prog 23 #[.agg v.cells.toArray, .agg u.cells.toArray] w fun e w' => e = .returned (.int .i64 (Lib.compareBytes (nameL v.f) (nameL u.f))) ∧ Below w.heap.size w w' := by
  obtain ⟨⟨id, lo, fa, re, sz, dt⟩, va, vl, vc⟩ := v
  obtain ⟨⟨id', lo', fa', re', sz', dt'⟩, ua, ul, uc⟩ := u
  simp only at hEv hEu ⊢
  have i1 := frE_ok hEv
  have i2 := frE_ok hEu
  simp only at i1 i2
  have HN1 := Hid.mk (fun W (hW : Below w.heap.size w W) => nameOf_any ⟨id, lo, fa, re, sz, dt⟩ va vl vc W (cell_kept hW hD) i1.1 i1.2.1)
  have HN2 := Hid.mk (fun W (hW : Below w.heap.size w W) => nameOf_any ⟨id', lo', fa', re', sz', dt'⟩ ua ul uc W (cell_kept hW hD) i2.1 i2.2.1)
  have hb1 := below_box w id lo fa re sz va vl vc
  have hb2 := below_box (w.alloc (frameC id lo fa re sz va vl vc)) id' lo' fa' re' sz' ua ul uc
  have hs : (w.alloc (frameC id lo fa re sz va vl vc)).heap.size = w.heap.size + 1 := by simp
  have hk1 := (FrAt.box w id lo fa re sz va vl vc).kept hb2
  have hk2 := FrAt.box (w.alloc (frameC id lo fa re sz va vl vc)) id' lo' fa' re' sz' ua ul uc
  rw [hs] at hk2
  have HB := Hid.mk (bl2 hb1 hb2)
  have HK1 := Hid.mk hk1
  have HK2 := Hid.mk hk2
  generalize nameL ⟨id, lo, fa, re, sz, dt⟩ = nm at *
  generalize nameL ⟨id', lo', fa', re', sz', dt'⟩ = pn at *
  have HCM := Hid.mk (fun W => compare_anyQ nm pn W)
  generalize Lib.compareBytes nm pn = q at *
  unfold frameV at HN1 HN2
  simp only at HN1 HN2
  unfold frameC at HB HK1 HK2
  simp only [FrV.cells]
  clear hD hEv hEu i1 i2 hb1 hb2 hs hk1 hk2
  go_enter Tryd.func23, Tryd.ntmps23
  go_wp2_with fail
  generalize hw2 : (w.alloc (Obj.cells #[.int .i64 id, .bool lo, .bool fa, .bool re, .int .i64 sz, .slice va vl vc] 25)).alloc (Obj.cells #[.int .i64 id', .bool lo', .bool fa', .bool re', .int .i64 sz', .slice ua ul uc] 25) = w2 at *
  clear hw2
  have rf0 := fun d os => (HK1.out.regrownQ d os).c0
  have rf1 := fun d os => (HK1.out.regrownQ d os).c1
  have rf2 := fun d os => (HK1.out.regrownQ d os).c2
  have rf3 := fun d os => (HK1.out.regrownQ d os).c3
  have rf4 := fun d os => (HK1.out.regrownQ d os).c4
  have rf5 := fun d os => (HK1.out.regrownQ d os).c5
  have rg0 := fun d os => (HK2.out.regrownQ d os).c0
  have rg1 := fun d os => (HK2.out.regrownQ d os).c1
  have rg2 := fun d os => (HK2.out.regrownQ d os).c2
  have rg3 := fun d os => (HK2.out.regrownQ d os).c3
  have rg4 := fun d os => (HK2.out.regrownQ d os).c4
  have rg5 := fun d os => (HK2.out.regrownQ d os).c5
  have HBR := Hid.mk (fun d os => bl2 HB.out (below_regrown w2 d os))
  refine wp_region_quiet_below (by kernel_rfl) (by kernel_rfl) ?_
  repeat (go_big_quiet_step (first
    | (go_at_call 19; with_reducible_and_instances exact Calls.regrown_of (HN1.out _ (HBR.out _ _)))
    | (go_at_call 19; with_reducible_and_instances exact Calls.regrown_of (HN2.out _ (HBR.out _ _)))
    | (go_at_call 24; with_reducible_and_instances exact Calls.regrown_of (HCM.out _))))
  refine wpQuiet_nil ?_
  intro _ hw'
  obtain ⟨⟨dq, osq⟩, hw''⟩ := hw'
  have hbq := below_regrown w2 dq osq
  rw [hw'']
  generalize grow (redrawn w2 dq) osq = w4 at *
  have HB4 := Hid.mk (bl2 HB.out hbq)
  clear hw'' hbq rf0 rf1 rf2 rf3 rf4 rf5 rg0 rg1 rg2 rg3 rg4 rg5 HBR
  go_wp2_with fail
  go_ret
  exact ⟨rfl, HB4.out⟩
end Bw
end Go.Proofs.YthdffdobkampaaaDoor

/- What slices.Insert answers of frames that the call owns, where one is put in. -/
namespace Go.Proofs.YthdffdobkampaaaDoor
open Go.ChangeShapes Go.WideShapes Go.ChangeAt Go.RowKit
namespace Bw
open Bm Cm
theorem frC_app (a b : List FrV) : frC (a ++ b) = frC a ++ frC b := by unfold frC; rw [List.flatMap_append]
theorem frC_ins (l : List FrV) (i : Nat) (v : FrV) : frC (insAt l i v) = frC (l.take i) ++ (v.cells ++ frC (l.drop i)) := by
  unfold insAt
  rw [frC_app]
  rfl
theorem frC_td (l : List FrV) (i : Nat) : frC l = frC (l.take i) ++ frC (l.drop i) := by rw [← frC_app, List.take_append_drop]
theorem frv_oneI (v : FrV) : ∀ u ∈ v.cells, u.oneCell' = true := by
  intro u hu
  unfold FrV.cells at hu
  simp only [List.mem_cons, List.not_mem_nil, or_false] at hu
  rcases hu with rfl | rfl | rfl | rfl | rfl | rfl <;> rfl
theorem size_frI (W : World) : (Go.sizeOf 25).run Tryd.prog W = .ok 6 W := by simp [go_sem]
section
variable {w : World}
theorem run_copy6 (ty : TypeId) (g o dLen dCap : Nat) (a : Addr) (sLen sCap : Nat) (cur : List Value) (cs : List Value) (hg : w.heap[g]? = some (.cells cur.toArray 25 (0, 0)))
    (hn : cs.length = Nat.min sLen dLen * 6) (hsrc : ∀ j v, cs[j]? = some v → w.cell? (a.add j) = some v) (hl : o + cs.length ≤ cur.length) (h1 : ∀ v ∈ cs, v.oneCell' = true) :
    (Builtin.copy_ #[22, 22] ty #[.slice (some ⟨g, o, none⟩) dLen dCap, .slice (some a) sLen sCap]).run Tryd.prog w = .ok (goInt (Nat.min sLen dLen)) (w.setRow g (cur.take o ++ cs ++ cur.drop (o + cs.length)).toArray) := by
  have hfc := run_firstCells_some (P := Tryd.prog) w 6 (Nat.min sLen dLen) a sLen sCap cs hn hsrc
  have hst := run_storeCells_at Tryd.prog g o 25 cs 0 cur.toArray w hg (by simpa using hl) h1
  simp only [Nat.add_zero] at hst
  cases hq : Tryd.prog.info? 25 with
  | none => have := fr_info; rw [hq] at this; cases this
  | some i =>
    have hi : i.size = 6 := by have := fr_info; rw [hq] at this; simpa using this
    simp [Builtin.copy_, run_underlying Tryd.underlying22, Builtin.lenOf, sizeOf, typeInfo, hq, hi, hfc, hst]
end
theorem wpl_copy {ops : Array Oper} {rest : List Oper} {dst : Option Tmp} {ty : TypeId} {pos : String} {aft : Array Edge} {a : Act} {w : World} {Q : Exit → Act → World → Prop} (d s : Operand) (v u : Value) (v' : Value) (w' : World) (hd : a.eval d = v) (hs : a.eval s = u)
    (hr : ∀ ty, (Builtin.copy_ #[22, 22] ty #[v, u]).run Tryd.prog w = .ok v' w') (h : wpList Tryd.prog ops Q rest (a.put dst v') w') :
    wpList Tryd.prog ops Q (Oper.mk dst (.call { callee := .builtin .copy, args := #[d, s], argTypes := #[22, 22] }) ty pos aft none :: rest) a w :=
  wpList_copy_runI w rfl d s 22 22 rfl v u hd hs (hr _) h
set_option maxHeartbeats 1000000 in
set_option maxRecDepth 100000 in
/-- at the end -/
theorem insert_end (sv : Value) (n vb base : Nat) (l : List FrV) (v : FrV) (w : World) (hl : l.length = n) (hn : n ≤ 1000) (hO : w.ownsRow base 25 6 sv n (frC l)) (hb : base ≤ w.heap.size) (hv : w.rangeAt vb 0 v.cells) :
    Calls Tryd.prog 36 #[sv, .int .i64 n, .slice (some ⟨vb, 0, none⟩) 1 1] w fun e w' => ∃ r, e = .returned r ∧ w'.ownsRow base 25 6 r (n + 1) (frC (insAt l n v)) ∧ Below base w w' := by
  obtain ⟨i0, hi, hz0, hz1, hz2⟩ := info_parts info_fr
  have hins : frC (insAt l n v) = frC l ++ v.cells := by
    rw [frC_ins, List.take_of_length_le (by omega), List.drop_of_length_le (by omega)]; rfl
  rw [hins]
  have HO := Hid.mk hO
  have hcc : ∀ j u, v.cells[j]? = some u → w.cell? (Addr.add ⟨vb, 0, none⟩ j) = some u := fun j u hj => by rw [Addr.add_mid]; exact hv j u hj
  have HCC := Hid.mk hcc
  obtain ⟨a, cp, rfl, hcp⟩ : ∃ a cp, sv = .slice a n cp ∧ n ≤ cp := by
    rcases hO.2 with ⟨h1, h2⟩ | ⟨g, cap, cur, h1, _, _, hc, _⟩
    · subst h2; exact ⟨none, 0, h1, Nat.le_refl _⟩
    · exact ⟨_, cap, h1, hc⟩
  have hLT := Hid.mk (show ∀ q, (Value.slice a n cp).ownBlock = some q → base ≤ q from fun q hq => (hO.lt q hq).1)
  clear hO hv hcc hins
  go_enter Tryd.func36, Tryd.ntmps36
  go_wp2_with (at_builtin; refine wpList_append_own _ rfl (.tmp 23) (.tmp 24) 22 rfl base 25 i0 (.agg #[.int .i64 0, .bool false, .bool false, .bool false, .int .i64 0, .slice none 0 0]) 6 48 Tryd.underlying22 hi hz0 hz1 hz2 rfl (by decide) _ _ _ rfl HO.out ⟨vb, 0, none⟩ 1 1 v.cells rfl rfl HCC.out (frv_oneI v) (by unfold maxLen; omega) (by omega) hb ?_; intro v3 w3 hown3 hgrow3 hnil3)
  all_goals (go_ret; exact ⟨v3, rfl, hown3, Below.grown (Below.refl _ _) hgrow3 hb hLT.out⟩)
set_option maxHeartbeats 1000000 in
set_option maxRecDepth 100000 in
/-- in the middle, where there is room -/
theorem insert_shift (g n c i vb base : Nat) (l : List FrV) (v : FrV) (w : World) (hl : l.length = n) (hn : n ≤ 1000) (hi : i < n) (hc : n + 1 ≤ c) (hcm : c ≤ 9223372036854775807) (cur : List Value) (hg : w.heap[g]? = some (.cells cur.toArray 25 (0, 0))) (hcl : cur.length = c * 6) (htk : cur.take (n * 6) = frC l) (hbg : base ≤ g) (hv : w.heap[vb]? = some (.cells v.cells.toArray 25 (0, 0))) (hvg : vb ≠ g) :
    Calls Tryd.prog 36 #[.slice (some ⟨g, 0, none⟩) n c, .int .i64 i, .slice (some ⟨vb, 0, none⟩) 1 1] w fun e w' => ∃ r, e = .returned r ∧ w'.ownsRow base 25 6 r (n + 1) (frC (insAt l i v)) ∧ Below base w w' := by
  have mixed : Tryd.prog.follows .mixedOrders = true := by kernel_rfl
  have hz2 : ¬ ((i : Int) = (n : Int)) := by omega
  have hdl : (frC (l.drop i)).length = (n - i) * 6 := by rw [frC_length, List.length_drop, hl]
  have htl : (frC (l.take i)).length = i * 6 := by rw [frC_length, List.length_take]; omega
  have hov : ∀ lb cb, (callFunc 46 #[.slice (some ⟨vb, 0, none⟩) 1 1, .slice (some ⟨g, (i + 1) * 6, none⟩) lb cb]).run Tryd.prog w = .ok (.value (.bool false)) w := fun lb cb => by
    rw [run_callFunc_extern Tryd.func46 (by kernel_rfl) (by kernel_rfl) (by kernel_rfl) (e := Extern.SlicesOverlaps.overlaps #[22, 22] #[4]) (by kernel_rfl),
      Lib.run_overlaps_apart w 22 4 25 Tryd.underlying22 6 size_frI ⟨vb, 0, none⟩ ⟨g, (i + 1) * 6, none⟩ 1 1 lb cb hvg 25 25 6 (c * 6) (by simp [World.shape?, hv]; rfl) (by simp [World.shape?, hg, hcl]) (by omega) (frozen_of_row w vb 0 _ _ hv) (frozen_of_row w vb 6 _ _ hv)]
    rfl
  have hcurl : cur = (frC (l.take i) ++ frC (l.drop i)) ++ cur.drop (n * 6) := by rw [← frC_td, ← htk, List.take_append_drop]
  have hsrc : ∀ j u, (frC (l.drop i))[j]? = some u → w.drew.cell? (Addr.add ⟨g, i * 6, none⟩ j) = some u := by
    intro j u hj
    have hj1 : j < (frC (l.drop i)).length := (List.getElem?_eq_some_iff.1 hj).1
    have e : w.drew.cell? ⟨g, i * 6 + j, none⟩ = w.cell? ⟨g, i * 6 + j, none⟩ := rfl
    rw [Addr.add_mid, e, cell_of_row w g _ _ _ _ hg, List.getElem?_toArray, hcurl, List.append_assoc, List.getElem?_append_right (by omega), htl, show i * 6 + j - i * 6 = j by omega, List.getElem?_append_left hj1]
    exact hj
  obtain ⟨cur1, hcur1⟩ : ∃ c1, c1 = cur.take ((i + 1) * 6) ++ frC (l.drop i) ++ cur.drop ((i + 1) * 6 + (n - i) * 6) := ⟨_, rfl⟩
  have hcp1 : ∀ ty dc sc, (Builtin.copy_ #[22, 22] ty #[.slice (some ⟨g, (i + 1) * 6, none⟩) (n + 1 - (i + 1)) dc, .slice (some ⟨g, i * 6, none⟩) (n + 1 - i) sc]).run Tryd.prog w.drew = .ok (goInt (Nat.min (n + 1 - i) (n + 1 - (i + 1)))) (w.drew.setRow g cur1.toArray) := fun ty dc sc => by
    have := run_copy6 (w := w.drew) ty g ((i + 1) * 6) (n + 1 - (i + 1)) dc ⟨g, i * 6, none⟩ (n + 1 - i) sc cur (frC (l.drop i)) hg (by rw [hdl]; simp only [Nat.min_def]; split <;> omega) hsrc (by rw [hdl, hcl]; omega) (frC_one _)
    rw [hdl, ← hcur1] at this
    exact this
  obtain ⟨W1, hW1⟩ : ∃ W1, W1 = w.drew.setRow g cur1.toArray := ⟨_, rfl⟩
  have hg1 : W1.heap[g]? = some (.cells cur1.toArray 25 (0, 0)) := by rw [hW1]; exact setRow_heap w.drew g _ _ _ _ hg
  have hv1 : W1.heap[vb]? = some (.cells v.cells.toArray 25 (0, 0)) := by rw [hW1, setRow_other _ _ _ _ hvg]; exact hv
  have hc1l : cur1.length = c * 6 := by rw [hcur1]; simp only [List.length_append, List.length_take, List.length_drop, hdl, hcl]; omega
  obtain ⟨cur2, hcur2⟩ : ∃ c2, c2 = cur1.take (i * 6) ++ v.cells ++ cur1.drop (i * 6 + 6) := ⟨_, rfl⟩
  have hcp2 : ∀ ty dc, (Builtin.copy_ #[22, 22] ty #[.slice (some ⟨g, i * 6, none⟩) (n + 1 - i) dc, .slice (some ⟨vb, 0, none⟩) 1 1]).run Tryd.prog W1 = .ok (goInt (Nat.min 1 (n + 1 - i))) (W1.setRow g cur2.toArray) := fun ty dc => by
    have := run_copy6 (w := W1) ty g (i * 6) (n + 1 - i) dc ⟨vb, 0, none⟩ 1 1 cur1 v.cells hg1 (by show 6 = _; simp only [Nat.min_def]; split <;> omega) (fun j u hj => by rw [Addr.add_mid, Nat.zero_add, cell_of_row W1 vb _ _ _ _ hv1, List.getElem?_toArray]; exact hj) (by rw [hc1l]; show i * 6 + 6 ≤ _; omega) (frv_oneI v)
    rw [show v.cells.length = 6 from rfl, ← hcur2] at this
    exact this
  have hfin : cur2.take ((n + 1) * 6) = frC (insAt l i v) := by
    have e1 : cur1 = (frC (l.take i) ++ (frC (l.drop i)).take 6) ++ (frC (l.drop i) ++ cur.drop ((n + 1) * 6)) := by
      rw [hcur1, show (i + 1) * 6 + (n - i) * 6 = (n + 1) * 6 by omega]
      have e2 : cur.take ((i + 1) * 6) = frC (l.take i) ++ (frC (l.drop i)).take 6 := by
        have e3 : cur.take ((i + 1) * 6) = (frC l).take ((i + 1) * 6) := by rw [← htk, List.take_take, Nat.min_eq_left (by omega)]
        rw [e3, frC_td l i, List.take_append, htl, show (i + 1) * 6 - i * 6 = 6 by omega, List.take_of_length_le (by rw [htl]; omega)]
      rw [e2]; simp only [List.append_assoc]
    have e4 : cur1.take (i * 6) = frC (l.take i) := by rw [e1, List.append_assoc, List.take_left' htl]
    have e5 : cur1.drop (i * 6 + 6) = frC (l.drop i) ++ cur.drop ((n + 1) * 6) := by
      rw [e1]
      exact List.drop_left' (by rw [List.length_append, htl, List.length_take, hdl, Nat.min_eq_left (by omega)])
    rw [hcur2, e4, e5, frC_ins]
    have e6 : frC (l.take i) ++ v.cells ++ (frC (l.drop i) ++ cur.drop ((n + 1) * 6)) = (frC (l.take i) ++ (v.cells ++ frC (l.drop i))) ++ cur.drop ((n + 1) * 6) := by simp only [List.append_assoc]
    rw [e6]
    exact List.take_left' (by rw [List.length_append, List.length_append, htl, hdl]; show i * 6 + (6 + _) = _; omega)
  have hc2l : cur2.length = c * 6 := by rw [hcur2]; simp only [List.length_append, List.length_take, List.length_drop, hc1l]; show _ + 6 + _ = _; omega
  have hend : ∃ r, Ending.returned (.slice (some ⟨g, 0, none⟩) (n + 1) c) = .returned r ∧ (W1.setRow g cur2.toArray).ownsRow base 25 6 r (n + 1) (frC (insAt l i v)) ∧ Below base w (W1.setRow g cur2.toArray) := by
    refine ⟨_, rfl, ⟨by rw [frC_length, insAt_len, hl], .inr ⟨g, c, cur2.toArray, rfl, hbg, setRow_heap W1 g _ _ _ _ hg1, hc, by unfold maxLen; omega, by rw [List.size_toArray, hc2l], by simpa using hfin⟩⟩, ?_⟩
    rw [hW1]
    exact ⟨rfl, rfl, rfl, by simp, fun k hk => by rw [setRow_other _ _ _ _ (by omega), setRow_other _ _ _ _ (by omega)]; rfl⟩
  have HEND := Hid.mk hend
  have hw1 : IntKind.i64.wrap ((i : Int) + 1) = (i : Int) + 1 := by rw [IntKind.wrap_i64]; omega
  have hb1 : (0 : Int) ≤ (i : Int) + 1 := by omega
  have hin : i ≤ n := by omega
  have htn : ((i : Int) + 1).toNat = i + 1 := by omega
  have hb2 : ¬ (c = i + 1) := by omega
  have hb3 : (i : Int) ≤ (n : Int) + 1 := by omega
  have hb4 : ¬ (c = i) := by omega
  have hb5 : ¬ ((c : Int) < (n : Int) + 1) := by omega
  rw [← hW1] at hcp1
  clear hW1
  clear hdl htl hcurl hsrc hcur1 hg1 hv1 hc1l hcur2 hfin hc2l hend hcl htk hg hv
  go_enter Tryd.func36, Tryd.ntmps36
  go_wp2_with (simp only [hov])
  go_region_law_o (refine step_copy_runI rfl _ _ 22 22 rfl (.slice (some ⟨g, (i + 1) * 6, none⟩) (n + 1 - (i + 1)) (c - (i + 1))) (.slice (some ⟨g, i * 6, none⟩) (n + 1 - i) (c - i)) (by simp [Act.eval, Act.put]) (by simp [Act.eval, Act.put]) (hcp1 _ _ _) ?_)
  go_wp2_with ((with_reducible_and_instances refine wpl_copy (.tmp 80) (.tmp 81) (.slice (some ⟨g, i * 6, none⟩) (n + 1 - i) (c - i)) (.slice (some ⟨vb, 0, none⟩) 1 1) _ _ ?_ ?_ (fun ty => hcp2 ty (c - i)) ?_); rfl; rfl)
  go_ret
  exact HEND.out
end Bw
end Go.Proofs.YthdffdobkampaaaDoor

/- How many bytes a frame that came in can have: the row's own reach. -/
namespace Go.Proofs.YthdffdobkampaaaDoor
open Go.ChangeShapes Go.WideShapes Go.ChangeAt Go.RowKit
namespace Bw
theorem bytes_b1 : Tryd.prog.bytesOf 5 = 1 := by kernel_rfl
set_option maxRecDepth 100000 in
theorem frame_len {H : Type} {enc : TypeId × Value → H} {W : World} {id : Int} {lo fa re : Bool} {sz : Int} {a : Option Addr} {len cap : Nat} {fuel : Nat} {x : DataW H × List MemPlace}
    (hf : DataW.trod enc Tryd.prog W 0 (fun _ => true) true fuel 25 (frameV id lo fa re sz a len cap).cells.toList = some x)
    (hw : (DataW.weights Tryd.prog 25 x.1).all (· ≤ reachBytes) = true) : len ≤ 140737488351232 := by
  obtain ⟨xs, n, _, rfl, _, hlen, hF⟩ := DataW.trod_struct Tryd.underlying25 hf
  have hcv : (frameV id lo fa re sz a len cap).cells.toList = [.int .i64 id, .bool lo, .bool fa, .bool re, .int .i64 sz, .slice a len cap] := rfl
  rw [hcv] at hF
  have h6 : xs.length = 6 := hlen
  obtain ⟨y5, e5⟩ : ∃ y, xs[5]? = some y := ⟨xs[5]'(by omega), List.getElem?_eq_getElem (by omega)⟩
  have f5 := hF 5 _ rfl
  rw [e5] at f5
  have f5 : DataW.trod enc Tryd.prog W 0 (fun _ => true) true n 23 (([Value.int .i64 id, .bool lo, .bool fa, .bool re, .int .i64 sz, .slice a len cap].drop 5).take (Tryd.prog.cellsOf 23)) = some y5 := f5
  rw [row_c1] at f5
  have e6 : ([Value.int .i64 id, .bool lo, .bool fa, .bool re, .int .i64 sz, .slice a len cap].drop 5).take 1 = [.slice a len cap] := rfl
  rw [e6] at f5
  have hwe : (DataW.weightsEach Tryd.prog [3, 4, 4, 4, 3, 23] (xs.map (·.1))).all (· ≤ reachBytes) = true := by
    have hw' := hw
    unfold DataW.weights at hw'
    rw [Tryd.underlying25] at hw'
    exact hw'
  rcases open_ints Tryd.underlying23 Tryd.underlying5 byte_c1 f5 with ⟨q5, _⟩ | ⟨a', len', cap', zs, q5, _, hl, hm, hz, hx5, _, _⟩
  · simp only [List.cons.injEq, and_true, Value.slice.injEq] at q5
    omega
  · simp only [List.cons.injEq, and_true, Value.slice.injEq] at q5
    obtain ⟨-, q6, q7⟩ := q5
    have hd5 : (xs.map (·.1))[5]? = some (.slice (lits .u8 (zs.take len')) (lits .u8 (zs.drop len'))) := by
      rw [List.getElem?_map, e5, hx5]; rfl
    have hs := sized_slice hwe (j := 5) (t := 23) (e := 5) rfl hd5 Tryd.underlying23
    rw [bytes_b1] at hs
    simp only [lits, List.length_map, List.length_take, List.length_drop, reachBytes] at hs
    simp at hz
    omega
end Bw
end Go.Proofs.YthdffdobkampaaaDoor

/- What slices.Clone answers of frames: a row of its own. -/
namespace Go.Proofs.YthdffdobkampaaaDoor
open Go.ChangeShapes Go.WideShapes Go.ChangeAt Go.RowKit
namespace Bw
open Bm
theorem info_frame : (Tryd.prog.info? 25).map (fun i => (i.zero, i.size, i.bytes)) = some (some (.agg #[.int .i64 0, .bool false, .bool false, .bool false, .int .i64 0, .slice none 0 0]), 6, 48) := by kernel_rfl
theorem bytes_frame : Tryd.prog.bytesOf 25 = 48 := by kernel_rfl
theorem frames_len {H : Type} {enc : TypeId × Value → H} {W : World} {a : Option Addr} {n cap : Nat} {fuel : Nat} {x : DataW H × List MemPlace}
    (hf : DataW.trod enc Tryd.prog W 0 (fun _ => true) true fuel 22 (Value.slice a n cap).cells.toList = some x)
    (hw : (DataW.weights Tryd.prog 22 x.1).all (· ≤ reachBytes) = true) : n * 48 ≤ 140737488351232 := by
  have hcv : (Value.slice a n cap).cells.toList = [.slice a n cap] := rfl
  rw [hcv] at hf
  rcases DataW.trod_slice Tryd.underlying22 hf with ⟨h0, _⟩ | ⟨y, len, cp, elems, rest, m, _, h0, hx, _, hl, hm, hlen, _, _, _⟩
  · simp only [List.cons.injEq, and_true, Value.slice.injEq] at h0
    omega
  · simp only [List.cons.injEq, and_true, Value.slice.injEq] at h0
    obtain ⟨_, rfl, rfl⟩ := h0
    subst hx
    unfold DataW.weights at hw
    simp only [Tryd.underlying22, List.all_cons, Bool.and_eq_true, bytes_frame, List.length_map] at hw
    have h1 := of_decide_eq_true hw.1
    unfold reachBytes at h1
    omega
theorem eql_nil (w : World) (cap : Nat) : (binOp .eql 22 (.slice none 0 cap) (.slice none 0 0)).run Tryd.prog w = .ok (.bool true) w := by
  exact Lib.run_eql_slice_nil w 22 25 none 0 cap 0 0 Tryd.underlying22
theorem eql_some (w : World) (x : Addr) (n cap : Nat) : (binOp .eql 22 (.slice (some x) n cap) (.slice none 0 0)).run Tryd.prog w = .ok (.bool false) w := by
  exact Lib.run_eql_slice_nil w 22 25 (some x) n cap 0 0 Tryd.underlying22
set_option maxHeartbeats 4000000 in
set_option maxRecDepth 100000 in
theorem clone_nil (w : World) (cap : Nat) :
    Calls Tryd.prog 20 #[.slice none 0 cap] w fun e w' => e = .returned (.slice none 0 0) ∧ w' = w := by
  have he := eql_nil w cap
  go_enter Tryd.func20, Tryd.ntmps20
  go_wp2_with fail
  go_ret
  exact ⟨rfl, rfl⟩
set_option maxHeartbeats 4000000 in
set_option maxRecDepth 100000 in
theorem clone_some (x : Addr) (n cap : Nat) (l : List FrV) (w : World) (hF : IsFrames w (some x) n cap l) (hn : n * 48 ≤ 140737488351232) :
    Calls Tryd.prog 20 #[.slice (some x) n cap] w fun e w' => ∃ g c, e = .returned (.slice (some ⟨g, 0, none⟩) n c) ∧ w'.ownsRow w.heap.size 25 6 (.slice (some ⟨g, 0, none⟩) n c) n (frC l) ∧ Below w.heap.size w w' := by
  obtain ⟨i0, hi, hz0, hz1, hz2⟩ := info_parts info_frame
  have hmx : n ≤ maxLen := Nat.le_trans hF.le hF.max
  have hl := hF.len
  have HF := Hid.mk hF
  have HLE := Hid.mk (show (frC l).length = n * 6 by rw [frC_length, hl])
  have hcc : ∀ j u, (frC l)[j]? = some u → (w.alloc (.cells #[] 25)).cell? (x.add j) = some u := by
    intro j u hj
    obtain ⟨i, k, hi, hk, rfl, rfl⟩ := frC_idx l j u hj
    exact cell_kept ((Below.refl _ _).alloc (Nat.le_refl _) _) (hF.cell x rfl i hi k hk)
  have HCC := Hid.mk hcc
  have HB := Hid.mk (show Below w.heap.size w (w.alloc (.cells #[] 25)) from (Below.refl _ _).alloc (Nat.le_refl _) _)
  have HO := Hid.mk (show (w.alloc (.cells #[] 25)).ownsRow w.heap.size 25 6 (.slice (some ⟨w.heap.size, 0, none⟩) 0 0) 0 [] from World.ownsRow_made w #[] 0 (Nat.le_refl _) (Nat.zero_le _) rfl)
  have he := eql_some w x n cap
  clear hF hcc hl
  go_enter Tryd.func20, Tryd.ntmps20
  go_wp2_with (at_builtin; refine wpList_append_own _ rfl (.tmp 5) (.tmp 6) 22 rfl w.heap.size 25 i0 (.agg #[.int .i64 0, .bool false, .bool false, .bool false, .int .i64 0, .slice none 0 0]) 6 48 Tryd.underlying22 hi hz0 hz1 hz2 rfl (by decide) _ _ _ rfl HO.out x n cap (frC l) rfl HLE.out HCC.out (frC_one l) (by omega) (by omega) (by simp) ?_; intro v3 w3 hown3 hgrow3 hnil3)
  rw [Nat.zero_add, List.nil_append] at hown3
  obtain ⟨g, c, rfl⟩ : ∃ g c, v3 = .slice (some ⟨g, 0, none⟩) n c := by
    rcases hown3.2 with ⟨h1, _⟩ | ⟨g, c, cur, h1, _⟩
    · have h2 := hnil3.1 h1
      cases h2.1
    · exact ⟨g, c, h1⟩
  have hB3 : Below w.heap.size w w3 := Below.grown HB.out hgrow3 (by simp) (fun q hq => (HO.out.lt q hq).1)
  go_ret
  exact ⟨g, c, rfl, hown3, hB3⟩
end Bw
end Go.Proofs.YthdffdobkampaaaDoor

/- What slices.Insert answers of frames that the call owns, where there is no room; and all its ways as one. -/
namespace Go.Proofs.YthdffdobkampaaaDoor
open Go.ChangeShapes Go.WideShapes Go.ChangeAt Go.RowKit
namespace Bw
open Bm Cm
set_option maxHeartbeats 1000000 in
set_option maxRecDepth 100000 in
/-- in the middle, where there is no room -/
theorem insert_grow (g n c i vb base : Nat) (l : List FrV) (v : FrV) (w : World) (hl : l.length = n) (hn : n ≤ 1000) (hi : i < n) (hnc : n ≤ c) (hc : c < n + 1) (cur : List Value) (hg : w.heap[g]? = some (.cells cur.toArray 25 (0, 0))) (htk : cur.take (n * 6) = frC l) (hbase : base ≤ w.heap.size) (hv : w.heap[vb]? = some (.cells v.cells.toArray 25 (0, 0))) :
    Calls Tryd.prog 36 #[.slice (some ⟨g, 0, none⟩) n c, .int .i64 i, .slice (some ⟨vb, 0, none⟩) 1 1] w fun e w' => ∃ r, e = .returned r ∧ w'.ownsRow base 25 6 r (n + 1) (frC (insAt l i v)) ∧ Below base w w' := by
  obtain ⟨i0, hi0, hz0, hz1, hz2⟩ := info_parts info_fr
  have mixed : Tryd.prog.follows .mixedOrders = true := by kernel_rfl
  have hne : ¬ ((i : Int) = (n : Int)) := by omega
  have hdl : (frC (l.drop i)).length = (n - i) * 6 := by rw [frC_length, List.length_drop, hl]
  have htl : (frC (l.take i)).length = i * 6 := by rw [frC_length, List.length_take]; omega
  have hgl : g < w.heap.size := (Array.getElem?_eq_some_iff.1 hg).1
  have hvl : vb < w.heap.size := (Array.getElem?_eq_some_iff.1 hv).1
  have hcurl : cur = (frC (l.take i) ++ frC (l.drop i)) ++ cur.drop (n * 6) := by rw [← frC_td, ← htk, List.take_append_drop]
  have hold : (Builtin.firstCells i0.size i (.slice (some ⟨g, 0, none⟩) i c)).run Tryd.prog w.drew = .ok (frC (l.take i)).toArray w.drew := by
    rw [hz1]
    exact run_firstCells_some w.drew 6 i ⟨g, 0, none⟩ i c (frC (l.take i)) htl (fun j u hj => by
      have hj1 : j < (frC (l.take i)).length := (List.getElem?_eq_some_iff.1 hj).1
      have e : w.drew.cell? ⟨g, 0 + j, none⟩ = w.cell? ⟨g, 0 + j, none⟩ := rfl
      rw [Addr.add_mid, e, Nat.zero_add, cell_of_row w g _ _ _ _ hg, List.getElem?_toArray, hcurl, List.append_assoc, List.getElem?_append_left hj1]
      exact hj)
  have hik : i + (n + 1 - i) = n + 1 := by omega
  obtain ⟨ROW, W1, hrz, hW1, hRl, hRt⟩ : ∃ (ROW : List Value) (W1 : World), (∀ ty, (Builtin.append_ #[22, 3] ty #[.slice (some ⟨g, 0, none⟩) i c, .int .i64 ((n : Int) + 1 - (i : Int))]).run Tryd.prog w = .ok (.slice (some ⟨w.heap.size, 0, none⟩) (n + 1) (grownCap w (n + 1) c 25)) W1) ∧ W1 = w.drew.alloc (.cells ROW.toArray 25) ∧ ROW.length = grownCap w (n + 1) c 25 * 6 ∧ ROW.take (i * 6) = frC (l.take i) := by
    have hG := grownCap_ge w (n + 1) c 25
    refine ⟨frC (l.take i) ++ ((Builtin.zeroCells (Value.agg #[.int .i64 0, .bool false, .bool false, .bool false, .int .i64 0, .slice none 0 0]).cells (n + 1 - i)).toList ++ (Builtin.zeroCells (Value.agg #[.int .i64 0, .bool false, .bool false, .bool false, .int .i64 0, .slice none 0 0]).cells (grownCap w (n + 1) c 25 - (n + 1))).toList), _, fun ty => ?_, rfl, ?_, List.take_left' htl⟩
    · have h := Lib.run_append_grow_zeros w 22 3 ty 25 i0 _ .i64 .i64 Tryd.underlying22 Tryd.underlying3 hi0 hz0 (some ⟨g, 0, none⟩) i c (frC (l.take i)) hold (n + 1 - i) (by omega) (by rw [hz1]; omega) (by omega) (by omega) (by rw [hz2]; omega) (by rw [hz2, hik]; exact growslice_fits hc (by omega))
      rw [hik] at h
      rw [show (n : Int) + 1 - (i : Int) = ((n + 1 - i : Nat) : Int) by omega, h]
      congr 3
      simp
    · simp only [List.length_append, htl, Array.length_toList, Builtin.zeroCells, Array.size_map, Array.size_range]
      show i * 6 + ((n + 1 - i) * 6 + (_ - (n + 1)) * 6) = _
      omega
  obtain ⟨G, hG⟩ : ∃ G, G = grownCap w (n + 1) c 25 := ⟨_, rfl⟩
  have hGn : n + 1 ≤ G := by rw [hG]; exact grownCap_ge w _ _ _
  have hGm : G ≤ maxLen := by rw [hG]; exact grownCap_le_maxLen w (n + 1) c 25 (by unfold maxLen; omega)
  rw [← hG] at hrz hRl
  obtain ⟨N, hN⟩ : ∃ N, N = w.heap.size := ⟨_, rfl⟩
  rw [← hN] at hrz
  have hN1 : W1.heap[N]? = some (.cells ROW.toArray 25 (0, 0)) := by rw [hW1, hN]; exact heap_alloc_new w.drew _
  have hb1 : Below base w W1 := by
    rw [hW1]
    exact ⟨rfl, rfl, rfl, by simp, fun k hk => by rw [heap_alloc_old w.drew _ (show k < w.drew.heap.size from Nat.lt_of_lt_of_le hk hbase)]; rfl⟩
  have hg1 : W1.heap[g]? = some (.cells cur.toArray 25 (0, 0)) := by rw [hW1, heap_alloc_old w.drew _ (show g < w.drew.heap.size from hgl)]; exact hg
  have hv1 : W1.heap[vb]? = some (.cells v.cells.toArray 25 (0, 0)) := by rw [hW1, heap_alloc_old w.drew _ (show vb < w.drew.heap.size from hvl)]; exact hv
  have hgN : g ≠ N := by omega
  obtain ⟨R1, hR1⟩ : ∃ R1, R1 = ROW.take (i * 6) ++ v.cells ++ ROW.drop (i * 6 + 6) := ⟨_, rfl⟩
  have hR1l : R1.length = G * 6 := by rw [hR1]; simp only [List.length_append, List.length_take, List.length_drop, hRl]; show _ + 6 + _ = _; omega
  obtain ⟨W2, hW2⟩ : ∃ W2, W2 = W1.setRow N R1.toArray := ⟨_, rfl⟩
  have hcpA : ∀ ty dc, (Builtin.copy_ #[22, 22] ty #[.slice (some ⟨N, i * 6, none⟩) (n + 1 - i) dc, .slice (some ⟨vb, 0, none⟩) 1 1]).run Tryd.prog W1 = .ok (goInt (Nat.min 1 (n + 1 - i))) W2 := fun ty dc => by
    have := run_copy6 (w := W1) ty N (i * 6) (n + 1 - i) dc ⟨vb, 0, none⟩ 1 1 ROW v.cells hN1 (by show 6 = _; simp only [Nat.min_def]; split <;> omega) (fun j u hj => by rw [Addr.add_mid, Nat.zero_add, cell_of_row W1 vb _ _ _ _ hv1, List.getElem?_toArray]; exact hj) (by rw [hRl]; show i * 6 + 6 ≤ _; omega) (frv_oneI v)
    rw [show v.cells.length = 6 from rfl, ← hR1, ← hW2] at this
    exact this
  have hN2 : W2.heap[N]? = some (.cells R1.toArray 25 (0, 0)) := by rw [hW2]; exact setRow_heap W1 N _ _ _ _ hN1
  have hg2 : W2.heap[g]? = some (.cells cur.toArray 25 (0, 0)) := by rw [hW2, setRow_other _ _ _ _ hgN]; exact hg1
  have hb2 : Below base w W2 := hb1.trans (by rw [hW2]; exact ⟨rfl, rfl, rfl, by simp, fun k hk => by rw [setRow_other _ _ _ _ (by omega)]⟩)
  obtain ⟨R2, hR2⟩ : ∃ R2, R2 = R1.take ((i + 1) * 6) ++ frC (l.drop i) ++ R1.drop ((i + 1) * 6 + (n - i) * 6) := ⟨_, rfl⟩
  obtain ⟨W3, hW3⟩ : ∃ W3, W3 = W2.drew.setRow N R2.toArray := ⟨_, rfl⟩
  have hcpB : ∀ ty dc sc, (Builtin.copy_ #[22, 22] ty #[.slice (some ⟨N, (i + 1) * 6, none⟩) (n + 1 - (i + 1)) dc, .slice (some ⟨g, i * 6, none⟩) (n - i) sc]).run Tryd.prog W2.drew = .ok (goInt (Nat.min (n - i) (n + 1 - (i + 1)))) W3 := fun ty dc sc => by
    have := run_copy6 (w := W2.drew) ty N ((i + 1) * 6) (n + 1 - (i + 1)) dc ⟨g, i * 6, none⟩ (n - i) sc R1 (frC (l.drop i)) hN2 (by rw [hdl]; simp only [Nat.min_def]; split <;> omega) (fun j u hj => by
        have hj1 : j < (frC (l.drop i)).length := (List.getElem?_eq_some_iff.1 hj).1
        have e : W2.drew.cell? ⟨g, i * 6 + j, none⟩ = W2.cell? ⟨g, i * 6 + j, none⟩ := rfl
        rw [Addr.add_mid, e, cell_of_row W2 g _ _ _ _ hg2, List.getElem?_toArray, hcurl, List.append_assoc, List.getElem?_append_right (by omega), htl, show i * 6 + j - i * 6 = j by omega, List.getElem?_append_left hj1]
        exact hj) (by rw [hdl, hR1l]; omega) (frC_one _)
    rw [hdl, ← hR2, ← hW3] at this
    exact this
  have hN3 : W3.heap[N]? = some (.cells R2.toArray 25 (0, 0)) := by rw [hW3]; exact setRow_heap W2.drew N _ _ _ _ hN2
  have hb3 : Below base w W3 := hb2.trans (by rw [hW3]; exact ⟨rfl, rfl, rfl, by simp, fun k hk => by rw [setRow_other _ _ _ _ (by omega)]; rfl⟩)
  have hR2l : R2.length = G * 6 := by rw [hR2]; simp only [List.length_append, List.length_take, List.length_drop, hdl, hR1l]; omega
  have hfin : R2.take ((n + 1) * 6) = frC (insAt l i v) := by
    have e1 : R1.take ((i + 1) * 6) = frC (l.take i) ++ v.cells := by
      rw [hR1, hRt]
      exact List.take_left' (by rw [List.length_append, htl]; show i * 6 + 6 = _; omega)
    rw [hR2, e1, frC_ins]
    have e6 : frC (l.take i) ++ v.cells ++ frC (l.drop i) = frC (l.take i) ++ (v.cells ++ frC (l.drop i)) := by simp only [List.append_assoc]
    rw [e6]
    exact List.take_left' (by rw [List.length_append, List.length_append, htl, hdl]; show i * 6 + (6 + _) = _; omega)
  have hend : ∃ r, Ending.returned (.slice (some ⟨N, 0, none⟩) (n + 1) G) = .returned r ∧ W3.ownsRow base 25 6 r (n + 1) (frC (insAt l i v)) ∧ Below base w W3 :=
    ⟨_, rfl, ⟨by rw [frC_length, insAt_len, hl], .inr ⟨N, G, R2.toArray, rfl, by omega, hN3, hGn, hGm, by rw [List.size_toArray, hR2l], by simpa using hfin⟩⟩, hb3⟩
  have HEND := Hid.mk hend
  have hG63 : G ≤ 9223372036854775807 := by unfold maxLen at hGm; omega
  have hw1 : IntKind.i64.wrap ((i : Int) + 1) = (i : Int) + 1 := by rw [IntKind.wrap_i64]; omega
  have hb1' : (0 : Int) ≤ (i : Int) + 1 := by omega
  have hin : i ≤ n := by omega
  have htn : ((i : Int) + 1).toNat = i + 1 := by omega
  have hGi : ¬ (G = i) := by omega
  have hGim : ¬ (G = i + 1) := by omega
  have hci : ¬ (c = i) := by omega
  have hc3 : (c : Int) < (n : Int) + 1 := by omega
  have hbi : (i : Int) ≤ (n : Int) := by omega
  clear hold hik hW1 hRl hRt hG hGm hN hN1 hb1 hg1 hv1 hgN hR1 hR1l hW2 hN2 hg2 hb2 hR2 hW3 hN3 hb3 hR2l hfin hend hdl htl hcurl hgl hvl htk hg hv hz0 hz1 hz2 hi0
  go_enter Tryd.func36, Tryd.ntmps36
  go_wp2_with (first
    | (at_builtin; refine Lib.wpList_append_run _ rfl _ _ _ _ rfl _ _ rfl rfl _ _ (hrz _) ?_)
    | ((with_reducible_and_instances refine wpl_copy (.tmp 43) (.tmp 44) (.slice (some ⟨N, i * 6, none⟩) (n + 1 - i) (G - i)) (.slice (some ⟨vb, 0, none⟩) 1 1) _ _ ?_ ?_ (fun ty => hcpA ty (G - i)) ?_); rfl; rfl))
  go_region_law_o (refine step_copy_runI rfl _ _ 22 22 rfl (.slice (some ⟨N, (i + 1) * 6, none⟩) (n + 1 - (i + 1)) (G - (i + 1))) (.slice (some ⟨g, i * 6, none⟩) (n - i) (c - i)) (by simp [Act.eval, Act.put]) (by simp [Act.eval, Act.put]) (hcpB _ _ _) ?_)
  go_wp2_with fail
  go_ret
  exact HEND.out
/-- wherever it goes -/
theorem insert_any (sv : Value) (n i vb base : Nat) (l : List FrV) (v : FrV) (w : World) (hl : l.length = n) (hn : n ≤ 1000) (hi : i ≤ n) (hO : w.ownsRow base 25 6 sv n (frC l)) (hb : base ≤ w.heap.size) (hv : w.heap[vb]? = some (.cells v.cells.toArray 25 (0, 0))) (hvb : ∀ q, sv.ownBlock = some q → q ≠ vb) :
    Calls Tryd.prog 36 #[sv, .int .i64 i, .slice (some ⟨vb, 0, none⟩) 1 1] w fun e w' => ∃ r, e = .returned r ∧ w'.ownsRow base 25 6 r (n + 1) (frC (insAt l i v)) ∧ Below base w w' := by
  by_cases hin : i = n
  · subst hin
    exact insert_end sv i vb base l v w hl hn hO hb (fun j u hj => by rw [Nat.zero_add, cell_of_row w vb _ _ _ _ hv, List.getElem?_toArray]; exact hj)
  · have hO' := hO
    rcases hO.2 with ⟨h1, h2⟩ | ⟨g, cap, cur, h1, hbg, hg, hc, hm, hsz, htk⟩
    · omega
    · subst h1
      have hvg : vb ≠ g := fun e => hvb g rfl e.symm
      have hgc : w.heap[g]? = some (.cells cur.toList.toArray 25 (0, 0)) := by rw [Array.toArray_toList]; exact hg
      by_cases hroom : n + 1 ≤ cap
      · exact insert_shift g n cap i vb base l v w hl hn (by omega) hroom (by unfold maxLen at hm; omega) cur.toList hgc (by rw [Array.length_toList]; exact hsz) htk hbg hv hvg
      · exact insert_grow g n cap i vb base l v w hl hn (by omega) hc (by omega) cur.toList hgc htk hb hv
end Bw
end Go.Proofs.YthdffdobkampaaaDoor
