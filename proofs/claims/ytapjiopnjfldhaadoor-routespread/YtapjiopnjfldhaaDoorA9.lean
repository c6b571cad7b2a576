/- What route.isTooSoon, lineOf and checkStep answer. -/
import Derived.Test.YtapjiopnjfldhaaDoorRtNew
import Derived.Deep.MidRow
import Derived.Deep.RegionHeld3
namespace Go.Proofs.YtapjiopnjfldhaaDoor
open Go.ChangeShapes Go.WideShapes Go.ChangeAt Go.RowKit
namespace Bw
open Bm
set_option linter.unusedVariables false
theorem op_store_row {P : Program} (w : World) {o : Oper} {a : Act} {K : Act → World → Prop} {Q : Exit → Act → World → Prop} (x y : Operand) (ty : TypeId) (ho : o.op = .store ty x y)
    (g : Nat) (t : TypeId) (old cells : Array Value) (hx : a.eval x = .pointer (some ⟨g, 0, none⟩)) (hy : a.eval y = .agg cells) (hg : w.heap[g]? = some (.cells old t (0, 0))) (hi : (P.info? ty).map (·.size) = some cells.size) (hs : old.size = cells.size) (h1 : cells.all (·.oneCell') = true)
    (h : ∀ w', w'.heap[g]? = some (.cells cells t (0, 0)) → w.grownBy w' (some g) → K (a.put o.dst undef) w') : Oper.wp P o a w K Q := by
  unfold Oper.wp execOp
  simp only [ho, hx, hy, Instr.storeAt, Instr.sureAddr, Sem.run_bind, Sem.run_pure, Result.andThen_ok, run_storeVar_row w g t ty old cells hg hi hs h1]
  exact h (w.setRow g cells) (setRow_heap w g _ _ _ _ hg) ⟨rfl, rfl, rfl, by simp, fun k _ hk => setRow_other w g k cells (fun e => hk (by rw [e]))⟩
theorem wpl_store_row {P : Program} {ops : Array Oper} {rest : List Oper} {dst : Option Tmp} {ty' : TypeId} {pos : String} {aft : Array Edge} {a : Act} {w : World} {Q : Exit → Act → World → Prop} (x y : Operand) (ty : TypeId)
    (g : Nat) (t : TypeId) (old cells : Array Value) (hx : a.eval x = .pointer (some ⟨g, 0, none⟩)) (hy : a.eval y = .agg cells) (hg : w.heap[g]? = some (.cells old t (0, 0))) (hi : (P.info? ty).map (·.size) = some cells.size) (hs : old.size = cells.size) (h1 : cells.all (·.oneCell') = true)
    (h : ∀ w', w'.heap[g]? = some (.cells cells t (0, 0)) → w.grownBy w' (some g) → wpList P ops Q rest (a.put dst undef) w') :
    wpList P ops Q (Oper.mk dst (.store ty x y) ty' pos aft none :: rest) a w :=
  wpList_plain rfl fun _ hK => op_store_row w x y ty rfl g t old cells hx hy hg hi hs h1 fun w' h2 h3 => hK _ _ (h w' h2 h3)
theorem fr6_i : (Tryd.prog.info? 28).map (·.size) = some 6 := by kernel_rfl
/-- a frame's variable, whole -/
def Row6 (w : World) (g : Nat) (id : Int) (lo fa re : Bool) (sz : Int) (a : Option Addr) (len cap : Nat) : Prop := w.heap[g]? = some (.cells #[.int .i64 id, .bool lo, .bool fa, .bool re, .int .i64 sz, .slice a len cap] 28 (0, 0))
theorem Row6.lt {w : World} {g : Nat} {id : Int} {lo fa re : Bool} {sz : Int} {a : Option Addr} {len cap : Nat} (h : Row6 w g id lo fa re sz a len cap) : g < w.heap.size := (Array.getElem?_eq_some_iff.1 h).1
theorem Row6.keptB {w w' : World} {g B : Nat} {id : Int} {lo fa re : Bool} {sz : Int} {a : Option Addr} {len cap : Nat} (h : Row6 w g id lo fa re sz a len cap) (hb : Below B w w') (hg : g < B) : Row6 w' g id lo fa re sz a len cap := by unfold Row6; rw [hb.block g hg]; exact h
theorem Row6.kept {w w' : World} {g : Nat} {id : Int} {lo fa re : Bool} {sz : Int} {a : Option Addr} {len cap : Nat} (h : Row6 w g id lo fa re sz a len cap) (hb : Below w.heap.size w w') : Row6 w' g id lo fa re sz a len cap := h.keptB hb h.lt
theorem Row6.new (w : World) (id : Int) (lo fa re : Bool) (sz : Int) (a : Option Addr) (len cap : Nat) : Row6 (w.alloc (frameC id lo fa re sz a len cap)) w.heap.size id lo fa re sz a len cap := heap_alloc_new w _
theorem Row6.fr {w : World} {g : Nat} {id : Int} {lo fa re : Bool} {sz : Int} {a : Option Addr} {len cap : Nat} (h : Row6 w g id lo fa re sz a len cap) : FrAt w g id lo fa re sz a len cap := by
  have h1 := fun j => cell_of_row w g j _ _ _ h
  exact ⟨h1 0, h1 1, h1 2, h1 3, h1 4, h1 5⟩
theorem Row6.set0 {w : World} {g : Nat} {id : Int} {lo fa re : Bool} {sz : Int} {a : Option Addr} {len cap : Nat} (h : Row6 w g id lo fa re sz a len cap) (v : Int) : Row6 (w.setCell ⟨g, 0, none⟩ (.int .i64 v)) g v lo fa re sz a len cap := heap_setCell_same _ g 0 _ _ _ h
theorem Row6.set5 {w : World} {g : Nat} {id : Int} {lo fa re : Bool} {sz : Int} {a : Option Addr} {len cap : Nat} (h : Row6 w g id lo fa re sz a len cap) (a' : Option Addr) (n' c' : Nat) : Row6 (w.setCell ⟨g, 5, none⟩ (.slice a' n' c')) g id lo fa re sz a' n' c' := heap_setCell_same _ g 5 _ _ _ h
theorem Row6.frozen {w : World} {g : Nat} {id : Int} {lo fa re : Bool} {sz : Int} {a : Option Addr} {len cap : Nat} (h : Row6 w g id lo fa re sz a len cap) (i : Nat) : w.frozen? ⟨g, i, none⟩ = false := frozen_of_row _ _ i _ _ h
theorem Row6.far {w : World} {g : Nat} {id : Int} {lo fa re : Bool} {sz : Int} {a : Option Addr} {len cap : Nat} (h : Row6 w g id lo fa re sz a len cap) {p : Addr} (hg : g ≠ p.block) (v : Value) : Row6 (w.setCell p v) g id lo fa re sz a len cap := by
  unfold Row6
  rw [heap_setCell_other w p g v hg]
  exact h
theorem range6 {w : World} {b : Nat} {id : Int} {lo fa re : Bool} {sz : Int} {a : Option Addr} {len cap : Nat} (h : FrAt w b id lo fa re sz a len cap) : w.rangeAt b 0 [.int .i64 id, .bool lo, .bool fa, .bool re, .int .i64 sz, .slice a len cap] := fun j v hv => by
  rw [Nat.zero_add]
  match j, hv with
  | 0, hv => cases hv; exact h.c0
  | 1, hv => cases hv; exact h.c1
  | 2, hv => cases hv; exact h.c2
  | 3, hv => cases hv; exact h.c3
  | 4, hv => cases hv; exact h.c4
  | 5, hv => cases hv; exact h.c5
theorem own_slice0 {w : World} {base : Nat} {e : TypeId} {size : Nat} {v : Value} {n : Nat} {xs : List Value} (h : w.ownsRow base e size v n xs) : ∃ a c, v = .slice a n c := by
  rcases h.2 with ⟨h1, h2⟩ | ⟨g, c, cur, h1, _⟩
  · exact ⟨none, 0, by rw [h1, h2]⟩
  · exact ⟨_, c, h1⟩
end Bw
end Go.Proofs.YtapjiopnjfldhaaDoor
namespace Go.Proofs.YtapjiopnjfldhaaDoor
open Go.ChangeShapes Go.WideShapes Go.ChangeAt Go.RowKit
namespace Bw
open Bm
set_option linter.unusedVariables false
theorem carry_res (tmps : Array Value) (w : World) (g : Nat) (cs : Array Value) (x : Value) (hp : tmps.getD 6 undef = .pointer (some ⟨g, 0, none⟩)) (hx : tmps.getD 7 undef = x) (h : w.heap[g]? = some (.cells cs 28 (0, 0))) (hs : cs.size = 6) :
    (results Tryd.f30 tmps).run Tryd.prog w = .ok (.tuple #[.agg cs, x]) w := by
  have hl := run_loadVar_row (P := Tryd.prog) w g 28 28 cs (0, 0) _ h Tryd.underlying28 rfl (by rw [fr6_i, hs])
  have hp' : tmps[6]?.getD undef = .pointer (some ⟨g, 0, none⟩) := by simpa using hp
  have hx' : tmps[7]?.getD undef = x := by simpa using hx
  simp [results, hp', hx', asAddr, hl]
/-- the three variables of carry -/
def car3 (w : World) (r : Rt) (id : Int) (lo fa re : Bool) (sz : Int) (a : Option Addr) (len cap : Nat) : World := ((w.alloc (rtC r)).alloc (frameC id lo fa re sz a len cap)).alloc (frameC 0 false false false 0 none 0 0)
theorem car3_at (w : World) (r : Rt) (id : Int) (lo fa re : Bool) (sz : Int) (a : Option Addr) (len cap : Nat) : RtAt (car3 w r id lo fa re sz a len cap) w.heap.size r ∧ Row6 (car3 w r id lo fa re sz a len cap) (w.heap.size + 1) id lo fa re sz a len cap ∧ Row6 (car3 w r id lo fa re sz a len cap) (w.heap.size + 2) 0 false false false 0 none 0 0 ∧ Below w.heap.size w (car3 w r id lo fa re sz a len cap) ∧ (car3 w r id lo fa re sz a len cap).heap.size = w.heap.size + 3 := by
  have b1 := awB w (rtC r)
  have b2 := awB (w.alloc (rtC r)) (frameC id lo fa re sz a len cap)
  have b3 := awB ((w.alloc (rtC r)).alloc (frameC id lo fa re sz a len cap)) (frameC 0 false false false 0 none 0 0)
  have h2 := (Row6.new (w.alloc (rtC r)) id lo fa re sz a len cap).kept b3
  have h3 := Row6.new ((w.alloc (rtC r)).alloc (frameC id lo fa re sz a len cap)) 0 false false false 0 none 0 0
  rw [show (w.alloc (rtC r)).heap.size = w.heap.size + 1 by simp] at h2
  rw [show ((w.alloc (rtC r)).alloc (frameC id lo fa re sz a len cap)).heap.size = w.heap.size + 2 by simp] at h3
  exact ⟨((RtAt.new w r).kept b2).kept b3, h2, h3, bl2 (bl2 b1 b2) b3, by unfold car3; simp⟩
set_option maxHeartbeats 4000000 in
set_option maxRecDepth 100000 in
theorem carry_from (r : Rt) (bus id : Int) (lo fa re : Bool) (sz : Int) (a : Option Addr) (len cap : Nat) (w : World) (hne : (r.fr != bus) = true) :
    Calls Tryd.prog 30 #[r.val, .int .i64 bus, frameV id lo fa re sz a len cap] w fun e w' => e = .returned (.tuple #[frameV 0 false false false 0 none 0 0, .bool false]) ∧ Below w.heap.size w w' := by
  obtain ⟨h1, h2, h3, hb, -⟩ := car3_at w r id lo fa re sz a len cap
  have H3 := Hid.mk h3
  have HB := Hid.mk hb
  obtain ⟨fr, tb, ⟨fw, fm, flo⟩, add, ev⟩ := r
  unfold car3 rtC frameC at H3 HB
  unfold Rt.val frameV
  simp only at *
  clear h1 h2 h3 hb
  go_enter Tryd.func30, Tryd.ntmps30
  go_wp2_with fail
  refine bodyPost_ret (carry_res _ _ (w.heap.size + 2) _ _ rfl rfl H3.out rfl) rfl ?_
  exact ⟨rfl, HB.out⟩
theorem in_one (x : Fn) (lo : Bool) (id : Nat) : (inN [x] lo id).length = if hitN x lo id = true then 1 else 0 := by
  unfold inN
  show (inFK [x] lo id 1).length = _
  rw [inFK, inFK]
  show ([] ++ (if hitN x lo id = true then [((0 : Nat) : Int)] else [])).length = _
  split <;> rfl
set_option maxHeartbeats 8000000 in
set_option maxRecDepth 100000 in
theorem carry_nohit (fr tb add ev : Int) (x : Fn) (id : Nat) (lo fa re : Bool) (sz : Int) (a : Option Addr) (len cap : Nat) (w : World) (hok : okN x) (hL : LastsAt w) (hS : SizesAt w) (hlen : len ≤ maxLen) (hG : frEn id lo fa re sz len = 0) (hid : id ≤ topN lo) (hh : ¬ hitN x lo id = true) :
    Calls Tryd.prog 30 #[Rt.val ⟨fr, tb, x.f, add, ev⟩, .int .i64 fr, frameV id lo fa re sz a len cap] w fun e w' => e = .returned (.tuple #[frameV 0 false false false 0 none 0 0, .bool false]) ∧ Below w.heap.size w w' := by
  obtain ⟨h1, h2, h3, hb, hsz⟩ := car3_at w ⟨fr, tb, x.f, add, ev⟩ id lo fa re sz a len cap
  have hb1 := awB (car3 w ⟨fr, tb, x.f, add, ev⟩ id lo fa re sz a len cap) (.cells #[.int .i64 x.f.w, .int .i64 x.f.m, .bool x.f.lo] 43)
  have hF := fils_one (car3 w ⟨fr, tb, x.f, add, ev⟩ id lo fa re sz a len cap) x.f
  rw [hsz] at hF
  have hI := in_ok (some ⟨w.heap.size + 3, 0, none⟩) 1 1 [x] id lo fa re sz a len cap _ hF ((hL.kept hb).kept hb1) ((hS.kept hb).kept hb1) hlen (fun y hy => by rw [List.mem_singleton] at hy; rw [hy]; exact hok) (by omega) hG hid
  rw [in_one, if_neg hh] at hI
  have HI := Hid.mk hI
  have HS := Hid.mk hS
  have HB1 := Hid.mk (bl2 hb hb1)
  have H1 := Hid.mk (h1.kept hb1)
  have H2 := Hid.mk (h2.kept hb1)
  have H3 := Hid.mk (h3.kept hb1)
  obtain ⟨k0, k1, k2, k3, k4, k5⟩ := (h2.kept hb1).fr
  have HSZ : Hid (w.heap.size + 3 ≤ ((car3 w ⟨fr, tb, x.f, add, ev⟩ id lo fa re sz a len cap).alloc (.cells #[.int .i64 x.f.w, .int .i64 x.f.m, .bool x.f.lo] 43)).heap.size) := Hid.mk (by have := hb1.size; omega)
  obtain ⟨fw, fm, flo⟩ := x
  unfold Fn.f at *
  unfold car3 rtC frameC at HI HB1 H1 H2 H3 k0 k1 k2 k3 k4 k5 HSZ
  unfold Rt.val frameV
  unfold frameV at HI
  simp only at *
  clear h1 h2 h3 hb hb1 hF hI hok hL hS hlen hG hid hh hsz
  go_enter Tryd.func30, Tryd.ntmps30
  go_wp2_with fail
  refine HI.out.mono ?_
  rintro e w1 ⟨v, rfl, hO, hb2⟩
  obtain ⟨a1, c1, rfl⟩ := own_slice0 hO
  have HB2 := Hid.mk (bl2 HB1.out hb2)
  have H32 := Hid.mk (H3.out.kept hb2)
  clear hO hb2 HB1 H1 H2 H3 HI k0 k1 k2 k3 k4 k5 HSZ
  have H3R : Hid (w1.heap[w.heap.size + 2]? = some (.cells #[.int .i64 0, .bool false, .bool false, .bool false, .int .i64 0, .slice none 0 0] 28 (0, 0))) := Hid.mk H32.out
  go_wp2_with (
     with_reducible_and_instances refine wpl_store_row (.tmp 6) (.tmp 26) 28 (w.heap.size + 2) 28 _ #[.int .i64 0, .bool false, .bool false, .bool false, .int .i64 0, .slice none 0 0] ?_ ?_ H3R.out fr6_i rfl (by simp [Value.oneCell']) ?_
     rfl
     rfl
     intro w2 h6 hg6
     have H6 := Hid.mk h6
     have HB6 := Hid.mk (Below.grown HB2.out hg6 HB2.out.size (fun q hq => by cases hq; omega))
     clear h6 hg6)
  refine bodyPost_ret (carry_res _ _ (w.heap.size + 2) _ _ rfl rfl H6.out rfl) rfl ?_
  exact ⟨rfl, HB6.out⟩
set_option maxHeartbeats 8000000 in
set_option maxRecDepth 100000 in
theorem carry_hit (fr tb add ev : Int) (x : Fn) (id : Nat) (lo fa re : Bool) (sz : Int) (a : Option Addr) (len cap : Nat) (w : World) (hok : okN x) (hL : LastsAt w) (hS : SizesAt w) (hlen : len ≤ maxLen) (hG : frEn id lo fa re sz len = 0) (hid : id ≤ topN lo) (hh : hitN x lo id = true) (ha0 : -536870911 ≤ add) (ha1 : add ≤ 536870911) :
    Calls Tryd.prog 30 #[Rt.val ⟨fr, tb, x.f, add, ev⟩, .int .i64 fr, frameV id lo fa re sz a len cap] w fun e w' => e = .returned (.tuple #[frameV (id + add) lo fa re sz a len cap, .bool (frEn (id + add) lo fa re sz len == 0)]) ∧ Below w.heap.size w w' := by
  obtain ⟨h1, h2, h3, hb, hsz⟩ := car3_at w ⟨fr, tb, x.f, add, ev⟩ id lo fa re sz a len cap
  have hb1 := awB (car3 w ⟨fr, tb, x.f, add, ev⟩ id lo fa re sz a len cap) (.cells #[.int .i64 x.f.w, .int .i64 x.f.m, .bool x.f.lo] 43)
  have hF := fils_one (car3 w ⟨fr, tb, x.f, add, ev⟩ id lo fa re sz a len cap) x.f
  rw [hsz] at hF
  have hI := in_ok (some ⟨w.heap.size + 3, 0, none⟩) 1 1 [x] id lo fa re sz a len cap _ hF ((hL.kept hb).kept hb1) ((hS.kept hb).kept hb1) hlen (fun y hy => by rw [List.mem_singleton] at hy; rw [hy]; exact hok) (by omega) hG hid
  rw [in_one, if_pos hh] at hI
  have HI := Hid.mk hI
  have HS := Hid.mk hS
  have HB1 := Hid.mk (bl2 hb hb1)
  have H1 := Hid.mk (h1.kept hb1)
  have H2 := Hid.mk (h2.kept hb1)
  have H3 := Hid.mk (h3.kept hb1)
  obtain ⟨k0, k1, k2, k3, k4, k5⟩ := (h2.kept hb1).fr
  have HSZ : Hid (w.heap.size + 3 ≤ ((car3 w ⟨fr, tb, x.f, add, ev⟩ id lo fa re sz a len cap).alloc (.cells #[.int .i64 x.f.w, .int .i64 x.f.m, .bool x.f.lo] 43)).heap.size) := Hid.mk (by have := hb1.size; omega)
  obtain ⟨fw, fm, flo⟩ := x
  unfold Fn.f at *
  unfold car3 rtC frameC at HI HB1 H1 H2 H3 k0 k1 k2 k3 k4 k5 HSZ
  unfold Rt.val frameV
  unfold frameV at HI
  simp only at *
  have HCK := Hid.mk (fun (W : World) (h : Below w.heap.size w W) => frCheck_any (id + add) lo fa re sz a len cap W (HS.out.kept h) hlen)
  have hidb : (id : Int) ≤ 536870911 := by have h : topN lo ≤ 536870911 := by cases lo <;> decide
                                           omega
  obtain ⟨ID, hID⟩ : ∃ ID, ID = (id : Int) + add := ⟨_, rfl⟩
  rw [← hID] at HCK ⊢
  have hIb : ID ≤ 1073741822 ∧ -536870911 ≤ ID := by omega
  obtain ⟨hI1, hI2⟩ := hIb
  have hIDe : (id : Int) + add = ID := hID.symm
  generalize frEn ID lo fa re sz len = E at *
  obtain ⟨Z, hZ⟩ : ∃ Z : Bool, Z = (E == 0) := ⟨_, rfl⟩
  rw [← hZ]
  have HZE := Hid.mk hZ
  unfold frameV at HCK
  clear h1 h2 h3 hb hb1 hF hI hok hL hS hlen hG hid hh hsz HS hID hZ
  go_enter Tryd.func30, Tryd.ntmps30
  go_wp2_with fail
  refine HI.out.mono ?_
  rintro e w1 ⟨v, rfl, hO, hb2⟩
  obtain ⟨a1, c1, rfl⟩ := own_slice0 hO
  have HB2 := Hid.mk (bl2 HB1.out hb2)
  have H12 := Hid.mk (H1.out.kept hb2)
  have H22 := Hid.mk (H2.out.kept hb2)
  have H32 := Hid.mk (H3.out.kept hb2)
  clear hO hb2 HB1 H1 H2 H3 HI k0 k1 k2 k3 k4 k5 HSZ
  have q5 := H12.out.c5
  have q0 := H22.out.fr.c0
  have f0 := H22.out.frozen 0
  have HB3 := Hid.mk (HB2.out.setCell (p := ⟨w.heap.size + 1, 0, none⟩) (show w.heap.size ≤ w.heap.size + 1 by omega) (.int .i64 ID))
  have H23 := Hid.mk (H22.out.set0 ID)
  have H33 := Hid.mk (H32.out.far (p := ⟨w.heap.size + 1, 0, none⟩) (show w.heap.size + 2 ≠ w.heap.size + 1 by omega) (.int .i64 ID))
  clear H12
  go_wp2_with fail
  generalize w1.setCell ⟨w.heap.size + 1, 0, none⟩ (.int .i64 ID) = W3 at *
  clear q5 q0 f0 H22 H32 HB2
  have hdd := dwB W3
  refine wp_region_held_drew (S := fun W => Row6 W (w.heap.size + 1) ID lo fa re sz a len cap ∧ Below w.heap.size w W) (by kernel_rfl) ⟨H23.out.kept hdd, bl2 HB3.out hdd⟩ (fun hHeld => ?_)
  refine wpAnyH_take (i := 0) rfl (by kernel_rfl) (by kernel_rfl) (by kernel_rfl) (fun _ _ _ h => h) (yieldsIf_load_mid (by rfl) _ _ rfl _ _ rfl _ _ (fun W hW => range6 hW.1.fr) Tryd.underlying28 rfl fr6_i) hHeld ?_
  simp only [List.getElem_toArray, List.getElem_cons_zero, Act.put, List.setIfInBounds_toArray, List.set_cons_zero, List.set_cons_succ]
  refine wpAnyH_take (i := 1) rfl (by kernel_rfl) (by kernel_rfl) (by kernel_rfl) (fun _ _ _ h => h) (yieldsIf_load_mid (by rfl) _ _ rfl _ _ rfl _ _ (fun W hW => range6 hW.1.fr) Tryd.underlying28 rfl fr6_i) hHeld ?_
  simp only [List.getElem_toArray, List.getElem_cons_zero, List.getElem_cons_succ, Act.put, List.setIfInBounds_toArray, List.set_cons_zero, List.set_cons_succ]
  refine wpAnyH_ready (rs := [2]) (by kernel_rfl) (by simp) ?_
  refine AllReadyH.cons rfl (fun K hK => ?_) AllReadyH.nil
  rw [if_pos (by rfl)]
  go_wp2_with fail
  refine (HCK.out _ hHeld.2).mono ?_
  rintro e w4 ⟨rfl, hb4⟩
  refine hK.out _ _ ⟨hHeld.1.kept hb4, bl2 hHeld.2 hb4⟩ (fun hHeld4 => ?_)
  clear hK K
  refine wpAnyH_take (i := 3) (v := .bool Z) rfl (by kernel_rfl) (by kernel_rfl) (by kernel_rfl) (fun _ _ _ h => h) (Or.inl ⟨by rfl, fun W hW => by rw [HZE.out]; clear hW hHeld hHeld4; go_simp⟩) hHeld4 ?_
  simp only [List.getElem_toArray, List.getElem_cons_zero, List.getElem_cons_succ, Act.put, List.setIfInBounds_toArray, List.set_cons_zero, List.set_cons_succ]
  have h34 : w4.heap[w.heap.size + 2]? = some (.cells #[.int .i64 0, .bool false, .bool false, .bool false, .int .i64 0, .slice none 0 0] 28 (0, 0)) := (H33.out.kept hdd).kept hb4
  have hlt4 : w.heap.size + 2 < w4.heap.size := (Array.getElem?_eq_some_iff.1 h34).1
  refine wpAnyH_ready (rs := [4]) (by kernel_rfl) (by simp) ?_
  refine AllReadyH.cons rfl (fun K hK => ?_) AllReadyH.nil
  rw [if_pos (by rfl)]
  refine op_store_row w4 (.tmp 6) (.tmp 33) 28 rfl (w.heap.size + 2) 28 _ #[.int .i64 ID, .bool lo, .bool fa, .bool re, .int .i64 sz, .slice a len cap] rfl rfl h34 fr6_i rfl (by simp [Value.oneCell']) ?_
  intro w5 h5 hg5
  refine hK.out _ _ ⟨(hg5.block (w.heap.size + 1) (by omega) (by simp)).trans hHeld4.1, Below.grown hHeld4.2 hg5 (by omega) (fun q hq => by cases hq; omega)⟩ (fun hHeld5 => ?_)
  clear hK K
  refine wpAnyH_take (i := 5) (v := .bool Z) rfl (by kernel_rfl) (by kernel_rfl) (by kernel_rfl) (fun _ _ _ h => h) (Or.inl ⟨by rfl, fun _ _ => rfl⟩) hHeld5 ?_
  simp only [List.getElem_toArray, List.getElem_cons_zero, List.getElem_cons_succ, Act.put, List.setIfInBounds_toArray, List.set_cons_zero, List.set_cons_succ]
  refine wpAnyH_done (by kernel_rfl) ?_ _
  go_wp2_with fail
  refine bodyPost_ret (carry_res _ _ (w.heap.size + 2) _ _ rfl rfl h5 rfl) rfl ?_
  exact ⟨rfl, hHeld5.2⟩
end Bw
end Go.Proofs.YtapjiopnjfldhaaDoor
namespace Go.Proofs.YtapjiopnjfldhaaDoor
open Go.ChangeShapes Go.WideShapes Go.ChangeAt Go.RowKit
namespace Bw
open Bm
set_option linter.unusedVariables false
/-- does it lie too near -/
def soonB (r : Rt) (t time : Int) : Bool := (t != -1) && decide (time - t < r.ev)
set_option maxHeartbeats 2000000 in
set_option maxRecDepth 100000 in
theorem isTooSoon_any (r : Rt) (t time : Int) (w : World) (h0 : -1 ≤ t ∧ t ≤ 1000000) (h1 : 0 ≤ time ∧ time ≤ 1000000) :
    Calls Tryd.prog 31 #[r.val, .int .i64 t, .int .i64 time] w fun e w' => e = .returned (.bool (soonB r t time)) ∧ Below w.heap.size w w' := by
  have HB := Hid.mk (awB w (rtC r))
  obtain ⟨fr, tb, ⟨fw, fm, flo⟩, add, ev⟩ := r
  unfold rtC at HB
  unfold Rt.val soonB
  simp only at *
  obtain ⟨h2, h3⟩ := h0
  obtain ⟨h4, h5⟩ := h1
  cases h6 : (t != -1)
  · go_enter Tryd.func31, Tryd.ntmps31
    go_wp2_with fail
    go_ret
    exact ⟨rfl, HB.out⟩
  · by_cases h7 : time - t < ev
    · rw [decide_eq_true h7]
      go_enter Tryd.func31, Tryd.ntmps31
      go_wp2_with fail
      go_ret
      exact ⟨rfl, HB.out⟩
    · rw [decide_eq_false h7]
      go_enter Tryd.func31, Tryd.ntmps31
      go_wp2_with fail
      go_ret
      exact ⟨by first | rfl | (congr 1; simp; omega), HB.out⟩
theorem ln8_i : (Tryd.prog.info? 49).map (·.size) = some 8 := by kernel_rfl
theorem line_res (tmps : Array Value) (w : World) (g : Nat) (cs : Array Value) (hp : tmps.getD 6 undef = .pointer (some ⟨g, 0, none⟩)) (h : w.heap[g]? = some (.cells cs 49 (0, 0))) (hs : cs.size = 8) :
    (results Tryd.f32 tmps).run Tryd.prog w = .ok (.agg cs) w := by
  have hl := run_loadVar_row (P := Tryd.prog) w g 49 49 cs (0, 0) _ h Tryd.underlying49 rfl (by rw [ln8_i, hs])
  have hp' : tmps[6]?.getD undef = .pointer (some ⟨g, 0, none⟩) := by simpa using hp
  simp [results, hp', asAddr, hl]
/-- a line's value -/
def lnV (tm bs id : Int) (lo fa re : Bool) (sz : Int) (a : Option Addr) (len cap : Nat) : Value := .agg #[.int .i64 tm, .int .i64 bs, .int .i64 id, .bool lo, .bool fa, .bool re, .int .i64 sz, .slice a len cap]
theorem far_bytes {w : World} {a : Option Addr} {n c : Nat} {l : List UInt8} (h : IsBytes w a n c l) {B : Nat} (hf : FarB B a) {g : Nat} (hg : g < B) {w' : World} (hw : w.grownBy w' (some g)) : IsBytes w' a n c l := by
  refine ⟨h.1, h.2.1, h.2.2.1, h.2.2.2.1, fun x hx i hi => ?_⟩
  have hv := h.2.2.2.2 x hx i hi
  have hlt := block_lt_of_cell hv
  have hb : (x.add i).block = x.block := by unfold Addr.add; split <;> rfl
  have hx1 := hf x hx
  unfold World.cell? at hv ⊢
  rw [hw.block _ hlt (by rw [hb]; intro e; cases e; omega)]
  exact hv
set_option maxHeartbeats 4000000 in
set_option maxRecDepth 100000 in
theorem lineOf_any (tm bs id : Int) (lo fa re : Bool) (sz : Int) (a : Option Addr) (len cap : Nat) (dt : List UInt8) (w : World) (hD : IsBytes w a len cap dt) (hn : len ≤ 1000) :
    Calls Tryd.prog 32 #[.int .i64 tm, .int .i64 bs, frameV id lo fa re sz a len cap] w fun e w' => ∃ a' c', e = .returned (lnV tm bs id lo fa re sz a' len c') ∧ IsBytes w' a' len c' dt ∧ FarB w.heap.size a' ∧ Below w.heap.size w w' := by
  have hb1 := awB w (frameC id lo fa re sz a len cap)
  have hb2 := awB (w.alloc (frameC id lo fa re sz a len cap)) (.cells #[.int .i64 0, .int .i64 0, .int .i64 0, .bool false, .bool false, .bool false, .int .i64 0, .slice none 0 0] 49)
  have hR := (Row6.new w id lo fa re sz a len cap).kept hb2
  have hZ : ((w.alloc (frameC id lo fa re sz a len cap)).alloc (.cells #[.int .i64 0, .int .i64 0, .int .i64 0, .bool false, .bool false, .bool false, .int .i64 0, .slice none 0 0] 49)).heap[w.heap.size + 1]? = some (.cells #[.int .i64 0, .int .i64 0, .int .i64 0, .bool false, .bool false, .bool false, .int .i64 0, .slice none 0 0] 49 (0, 0)) := by
    have := heap_alloc_new (w.alloc (frameC id lo fa re sz a len cap)) (.cells #[.int .i64 0, .int .i64 0, .int .i64 0, .bool false, .bool false, .bool false, .int .i64 0, .slice none 0 0] 49)
    rw [show (w.alloc (frameC id lo fa re sz a len cap)).heap.size = w.heap.size + 1 by simp] at this
    exact this
  have HC := Hid.mk (copiedB_any a len cap dt _ (isBytes_below hD (bl2 hb1 hb2)) hn)
  have HB := Hid.mk (bl2 hb1 hb2)
  have HR := Hid.mk hR
  have HZ := Hid.mk hZ
  have HSZ : Hid (w.heap.size + 2 ≤ ((w.alloc (frameC id lo fa re sz a len cap)).alloc (.cells #[.int .i64 0, .int .i64 0, .int .i64 0, .bool false, .bool false, .bool false, .int .i64 0, .slice none 0 0] 49)).heap.size) := Hid.mk (by simp)
  obtain ⟨k0, k1, k2, k3, k4, k5⟩ := hR.fr
  unfold frameC at HC HB HR HZ HSZ k0 k1 k2 k3 k4 k5
  unfold frameV lnV
  clear hb1 hb2 hR hZ hD hn
  go_enter Tryd.func32, Tryd.ntmps32
  go_wp2_with fail
  generalize (w.alloc (.cells #[.int .i64 id, .bool lo, .bool fa, .bool re, .int .i64 sz, .slice a len cap] 28)).alloc (.cells #[.int .i64 0, .int .i64 0, .int .i64 0, .bool false, .bool false, .bool false, .int .i64 0, .slice none 0 0] 49) = W0 at *
  refine HC.out.mono ?_
  rintro e w1 ⟨a', c', rfl, hby, hfar, hb3⟩
  have HB1 := Hid.mk (bl2 HB.out hb3)
  have HR1 := Hid.mk (HR.out.kept hb3)
  have HZ1 : Hid (w1.heap[w.heap.size + 1]? = some (.cells #[.int .i64 0, .int .i64 0, .int .i64 0, .bool false, .bool false, .bool false, .int .i64 0, .slice none 0 0] 49 (0, 0))) := Hid.mk ((hb3.block _ (by have := HSZ.out; omega)).trans HZ.out)
  have HY1 := Hid.mk hby
  have HF1 : Hid (FarB (w.heap.size + 2) a') := Hid.mk (fun x hx => Nat.le_trans HSZ.out (hfar x hx))
  clear hby hfar hb3 k0 k1 k2 k3 k4 k5 HC HB HR HZ
  have q5 := HR1.out.fr.c5
  have f5 := HR1.out.frozen 5
  have HR2 := Hid.mk (HR1.out.set5 a' len c')
  have HB2 := Hid.mk (HB1.out.setCell (p := ⟨w.heap.size, 5, none⟩) (Nat.le_refl _) (.slice a' len c'))
  have HY2 := Hid.mk (show IsBytes (w1.setCell ⟨w.heap.size, 5, none⟩ (.slice a' len c')) a' len c' dt from far_bytes HY1.out HF1.out (show w.heap.size < w.heap.size + 2 by omega) (grown_set w1 ⟨w.heap.size, 5, none⟩ _))
  have HZ2 : Hid ((w1.setCell ⟨w.heap.size, 5, none⟩ (.slice a' len c')).heap[w.heap.size + 1]? = some (.cells #[.int .i64 0, .int .i64 0, .int .i64 0, .bool false, .bool false, .bool false, .int .i64 0, .slice none 0 0] 49 (0, 0))) := Hid.mk (by rw [heap_setCell_other w1 ⟨w.heap.size, 5, none⟩ (w.heap.size + 1) _ (show w.heap.size + 1 ≠ w.heap.size by omega)]; exact HZ1.out)
  obtain ⟨k0, k1, k2, k3, k4, k5⟩ := HR2.out.fr
  go_wp2_with (
     with_reducible_and_instances refine wpl_store_row (.tmp 6) (.tmp 14) 49 (w.heap.size + 1) 49 _ #[.int .i64 tm, .int .i64 bs, .int .i64 id, .bool lo, .bool fa, .bool re, .int .i64 sz, .slice a' len c'] ?_ ?_ HZ2.out ln8_i rfl (by simp [Value.oneCell']) ?_
     rfl
     rfl
     intro w3 h6 hg6
     have H6 := Hid.mk h6
     have HB6 := Hid.mk (Below.grown HB2.out hg6 HB2.out.size (fun q hq => by cases hq; omega))
     have HY6 := Hid.mk (far_bytes HY2.out HF1.out (show w.heap.size + 1 < w.heap.size + 2 by omega) hg6)
     clear h6 hg6)
  refine bodyPost_ret (line_res _ _ (w.heap.size + 1) _ rfl H6.out rfl) rfl ?_
  exact ⟨a', c', rfl, HY6.out, fun x hx => Nat.le_trans (by omega) (HF1.out x hx), HB6.out⟩
/-- what is wrong with a step -/
def lateB (ts : List Int) (time : Int) : Bool := ts.any fun t => decide (time < t)
def stE (rs : List Rt) (ts : List Int) (time bus id : Int) (lo fa re : Bool) (sz : Int) (len : Nat) : Int :=
  if chkG rs ts ≠ 0 then chkG rs ts else if frEn id lo fa re sz len ≠ 0 then frEn id lo fa re sz len else if timB time = false then 3 else if busB bus = false then 3 else if lateB ts time = true then 12 else 0
theorem late_no {ts : List Int} {time : Int} (h : ∀ j, j < ts.length → ¬ time < ts.getD j 0) : lateB ts time = false := by
  unfold lateB
  rw [List.any_eq_false]
  intro x hx
  obtain ⟨i, hi, rfl⟩ := List.mem_iff_getElem.1 hx
  have := h i hi
  simp only [List.getD, List.getElem?_eq_getElem hi, Option.getD_some] at this
  simpa using this
theorem late_yes {ts : List Int} {time : Int} {j : Nat} (hj : j < ts.length) (h : time < ts.getD j 0) : lateB ts time = true := by
  unfold lateB
  rw [List.any_eq_true]
  refine ⟨ts[j], List.getElem_mem hj, ?_⟩
  simp only [List.getD, List.getElem?_eq_getElem hj, Option.getD_some] at h
  simpa using h
end Bw
end Go.Proofs.YtapjiopnjfldhaaDoor
