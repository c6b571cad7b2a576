/- What queue.Check and queue.put answer. -/
import Derived.Test.YthdffdobkampaaaDoorQLineOf
namespace Go.Proofs.YthdffdobkampaaaDoor
open Go.ChangeShapes Go.WideShapes Go.ChangeAt Go.RowKit
namespace Bw
open Bm Cm
theorem LnAt.zero (W : World) : LnAt (W.alloc (Obj.cells Tryd.zeroCells55 55)) W.heap.size (List.replicate 32 zE) 0 := by
  have := LnAt.new W (List.replicate 32 zE) 0 (by simp)
  unfold lnO at this
  rw [← zero_line] at this
  exact this
theorem below_zero (W : World) : Below W.heap.size W (W.alloc (Obj.cells Tryd.zeroCells55 55)) := (Below.refl _ _).alloc (Nat.le_refl _) _
/-- whatever is told of it, it is a line -/
theorem lineL_shape (l : List FrV) : ∃ B m, lineL l = lnC B m ∧ B.length = 32 := by
  unfold lineL
  split
  · rename_i h
    obtain ⟨h1, _⟩ := chk_ok h
    rw [List.length_map] at h1
    exact ⟨_, _, rfl, padA_len l l.length (Nat.le_refl _) (by omega)⟩
  · exact ⟨_, _, rfl, by simp⟩
set_option maxHeartbeats 4000000 in
set_option maxRecDepth 100000 in
theorem check_qany (a : Option Addr) (n cap : Nat) (l : List FrV) (w : World) (hS : SizesAt w) (hF : IsFrames w a n cap l) :
    Calls Tryd.prog 13 #[.slice a n cap] w fun e w' => e = .returned (.int .i64 (chkQ (l.map (·.f)))) ∧ Below w.heap.size w w' := by
  have h1 := lineOf_any a n cap l w hS hF
  obtain ⟨B, m, hB, hlen⟩ := lineL_shape l
  rw [hB] at h1
  have H1 := Hid.mk h1
  clear h1 hB hS hF
  go_enter Tryd.func13, Tryd.ntmps13
  go_wp2_with fail
  refine H1.out.mono ?_
  rintro e w1 ⟨rfl, hb1⟩
  go_wp2_with (first | ((with_reducible_and_instances refine wpl_store_line (.tmp 3) (.tmp 8) w1.heap.size (List.replicate 32 zE) B 0 m ?_ ?_ (LnAt.zero w1) hlen ?_); rfl; rfl; intro w5 hL5 hT5))
  go_ret
  exact ⟨rfl, bl2 hb1 (Tch.below (below_zero w1) hT5 (by simp) (Nat.le_refl _))⟩
/-- frames in order behind one another -/
def putV (l : List FrV) (v : FrV) : List FrV := insAt l (atF (l.map (·.f)) v.f) v
theorem putV_f (l : List FrV) (v : FrV) : (putV l v).map (·.f) = putF (l.map (·.f)) v.f := by unfold putV putF; rw [insAt_map]
theorem putV_len (l : List FrV) (v : FrV) : (putV l v).length = l.length + 1 := insAt_len _ _ _
theorem withA_put (l : List FrV) (z : List Ent) (v : FrV) : withA (l.map entOf ++ z) l.length (entOf v) = (putV l v).map entOf ++ z.drop 1 := by
  unfold withA putV
  have hl : (l.map entOf).length = l.length := List.length_map _
  have e1 : (l.map entOf ++ z).take l.length = l.map entOf := by rw [← hl, List.take_left]
  have e2 : (l.map entOf ++ z).drop (l.length + 1) = z.drop 1 := by rw [← List.drop_drop, ← hl, List.drop_left]
  rw [e1, e2, insAt_map]
  congr 2
  unfold atA atF
  rw [List.length_map, List.map_append, List.map_map, List.map_map]
  refine atE_congr _ _ _ _ (fun j hj => ?_)
  have hj1 : j < (l.map ((fun x => x.name) ∘ entOf)).length := by simpa using hj
  rw [List.getD_eq_getElem?_getD, List.getD_eq_getElem?_getD, List.getElem?_append_left hj1]
  rfl
theorem with_line (l : List FrV) (z : List Ent) (v : FrV) (w : World) (hlz : l.length + z.length = 32) (hz : 0 < z.length) :
    Calls Tryd.prog 38 #[.agg (lnC (l.map entOf ++ z) l.length).toArray, .agg (entOf v).cells.toArray] w fun e w' => e = .returned (.agg (lnC ((putV l v).map entOf ++ z.drop 1) ((putV l v).length : Int)).toArray) ∧ Below w.heap.size w w' := by
  have h := with_any (l.map entOf ++ z) l.length (entOf v) w (by rw [List.length_append, List.length_map]; exact hlz) (by omega)
  rw [withA_put] at h
  rw [putV_len]
  exact h
theorem OwnFrs.mono {w : World} {b b' : Nat} {r : Value} {l : List FrV} (h : OwnFrs w b r l) (hb : b' ≤ b) : OwnFrs w b' r l := by
  refine ⟨?_, h.bytes, h.apart, fun v hv x hx => Nat.le_trans hb (h.fresh v hv x hx)⟩
  obtain ⟨h1, h2⟩ := h.row
  refine ⟨h1, ?_⟩
  rcases h2 with h2 | ⟨g, cap, cur, hv, hg, hh⟩
  · exact .inl h2
  · exact .inr ⟨g, cap, cur, hv, Nat.le_trans hb hg, hh⟩
theorem framesOf_any (l : List FrV) (z : List Ent) (w : World) (hlz : l.length + z.length = 32) (hY : ∀ v ∈ l, IsBytes w v.a v.len v.cap v.f.dt) (hE : ∀ v ∈ l, frE v.f = 0) :
    Calls Tryd.prog 30 #[.agg (lnC (l.map entOf ++ z) l.length).toArray] w fun e w' => ∃ r l', e = .returned r ∧ l'.map (·.f) = l.map (·.f) ∧ OwnFrs w' w.heap.size r l' ∧ Below w.heap.size w w' := by
  have hA : (l.map entOf ++ z).length = 32 := by rw [List.length_append, List.length_map]; exact hlz
  have hi : ∀ i (h : i < (l.map entOf ++ z).length) (h2 : i < l.length), (l.map entOf ++ z)[i].v = l[i] := by
    intro i h h2
    rw [List.getElem_append_left (by simpa using h2), List.getElem_map]; rfl
  refine (framesOf_A (l.map entOf ++ z) l.length w hA (by omega) ?_ ?_).mono ?_
  · intro i h h2; rw [hi i h h2]; exact hY _ (List.getElem_mem h2)
  · intro i h h2; rw [hi i h h2]; exact (frE_ok (hE _ (List.getElem_mem h2))).2.2.2.2.2.2.1
  · rintro e w' ⟨r, l', rfl, _, hf, ho, hb⟩
    refine ⟨r, l', rfl, ?_, ho.mono (Nat.le_succ _), hb⟩
    have hl : (l.map entOf).length = l.length := List.length_map _
    rw [hf, ← hl, List.take_left, List.map_map]; rfl
set_option maxHeartbeats 4000000 in
set_option maxRecDepth 100000 in
theorem put_full (l : List FrV) (z : List Ent) (v : FrV) (w : World) (hlz : l.length + z.length = 32) (hl : l.length = 16) :
    Calls Tryd.prog 29 #[.agg (lnC (l.map entOf ++ z) l.length).toArray, .agg (entOf v).cells.toArray] w fun e w' => e = .returned (.tuple #[.slice none 0 0, .int .i64 11]) ∧ Below w.heap.size w w' := by
  have hL0 := LnAt.new w (l.map entOf ++ z) l.length (by rw [List.length_append, List.length_map]; exact hlz)
  have hB0 : Below w.heap.size w (w.alloc (lnO (l.map entOf ++ z) l.length)) := (Below.refl _ _).alloc (Nat.le_refl _) _
  have hB1 : Below (w.alloc (lnO (l.map entOf ++ z) l.length)).heap.size (w.alloc (lnO (l.map entOf ++ z) l.length)) ((w.alloc (lnO (l.map entOf ++ z) l.length)).alloc (.cells (entOf v).cells.toArray 52)) := (Below.refl _ _).alloc (Nat.le_refl _) _
  have k0 := hL0.kept hB1
  have kB := bl2 hB0 hB1
  unfold lnO at k0 kB
  have c224 := k0.size
  have KB := Hid.mk kB
  clear hL0 hB0 hB1 k0 kB
  generalize (lnC (l.map entOf ++ z) l.length).toArray = C at *
  rw [hl] at c224
  go_enter Tryd.func29, Tryd.ntmps29
  go_wp2_with fail
  go_ret2
  exact ⟨rfl, KB.out⟩
set_option maxHeartbeats 1000000 in
set_option maxRecDepth 100000 in
theorem put_room (l : List FrV) (z : List Ent) (v : FrV) (w : World) (hlz : l.length + z.length = 32) (hl : l.length < 16) (hY : ∀ u ∈ l, IsBytes w u.a u.len u.cap u.f.dt) (hE : ∀ u ∈ l, frE u.f = 0) (hYv : IsBytes w v.a v.len v.cap v.f.dt) (hEv : frE v.f = 0) :
    Calls Tryd.prog 29 #[.agg (lnC (l.map entOf ++ z) l.length).toArray, .agg (entOf v).cells.toArray] w fun e w' => ∃ r l', e = .returned (.tuple #[r, .int .i64 0]) ∧ l'.map (·.f) = putF (l.map (·.f)) v.f ∧ OwnFrs w' w.heap.size r l' ∧ Below w.heap.size w w' := by
  have hA : (l.map entOf ++ z).length = 32 := by rw [List.length_append, List.length_map]; exact hlz
  have hL0 := LnAt.new w (l.map entOf ++ z) l.length hA
  have hB0 : Below w.heap.size w (w.alloc (lnO (l.map entOf ++ z) l.length)) := (Below.refl _ _).alloc (Nat.le_refl _) _
  have hs0 : (w.alloc (lnO (l.map entOf ++ z) l.length)).heap.size = w.heap.size + 1 := by simp
  have hE1 := EnAt.new (w.alloc (lnO (l.map entOf ++ z) l.length)) (entOf v)
  have hB1 : Below (w.alloc (lnO (l.map entOf ++ z) l.length)).heap.size (w.alloc (lnO (l.map entOf ++ z) l.length)) ((w.alloc (lnO (l.map entOf ++ z) l.length)).alloc (.cells (entOf v).cells.toArray 52)) := (Below.refl _ _).alloc (Nat.le_refl _) _
  have k0 := hL0.kept hB1
  have kB := bl2 hB0 hB1
  rw [hs0] at hE1
  unfold lnO at k0 kB hE1
  have c224 := k0.size
  have K0 := Hid.mk k0
  have K1 := Hid.mk hE1
  have KB := Hid.mk kB
  have hw := fun W => with_line l z v W hlz (by omega)
  have hfs := fun W h1 h2 => framesOf_any (putV l v) (z.drop 1) W (by rw [putV_len, List.length_drop]; omega) h1 h2
  have hmem : ∀ u, u ∈ putV l v → u = v ∨ u ∈ l := fun u hu => (insAt_mem l _ v u).1 hu
  have HPF := Hid.mk (putV_f l v)
  have HW := Hid.mk hw
  have HFS := Hid.mk hfs
  have hne : ¬ ((l.length : Int) = 16) := by omega
  have hneb : ((l.length : Int) == 16) = false := by simpa using hne
  have HYP := Hid.mk (show ∀ W, Below w.heap.size w W → (∀ u ∈ putV l v, IsBytes W u.a u.len u.cap u.f.dt) from fun W hb u hu => by
    rcases hmem u hu with rfl | hu
    · exact isBytes_below hYv hb
    · exact isBytes_below (hY u hu) hb)
  have HEP := Hid.mk (show ∀ u ∈ putV l v, frE u.f = 0 from fun u hu => by
    rcases hmem u hu with rfl | hu
    · exact hEv
    · exact hE u hu)
  clear hL0 hB0 hB1 hs0 hE1 k0 kB hw hfs hmem hY hE hYv hEv
  generalize hCe : (lnC (l.map entOf ++ z) l.length).toArray = C at *
  obtain ⟨N, hN⟩ : ∃ N, N = l.length := ⟨_, rfl⟩
  rw [← hN] at c224 hneb hne
  have HCE := Hid.mk hCe
  clear hCe hN
  generalize (lnC ((putV l v).map entOf ++ z.drop 1) ((putV l v).length : Int)).toArray = D at *
  go_enter Tryd.func29, Tryd.ntmps29
  go_wp2_with (first | ((with_reducible_and_instances refine wpl_load_line (.tmp 2) w.heap.size _ _ ?_ K0.out ?_); rfl; rw [HCE.out]) | ((with_reducible_and_instances refine wpl_load_own (.tmp 3) (w.heap.size + 1) (entOf v) ?_ K1.out ?_); rfl))
  refine (HW.out _).mono ?_
  rintro e w1 ⟨rfl, hb1⟩
  have hb01 := bl2 KB.out hb1
  go_wp2_with fail
  refine (HFS.out _ (HYP.out _ hb01) HEP.out).mono ?_
  rintro e w2 ⟨r, l', rfl, hf, ho, hb2⟩
  go_wp2_with fail
  go_ret2
  exact ⟨r, l', rfl, by rw [hf, HPF.out], ho.mono (by have := hb01.size; omega), bl2 hb01 hb2⟩
end Bw
end Go.Proofs.YthdffdobkampaaaDoor
