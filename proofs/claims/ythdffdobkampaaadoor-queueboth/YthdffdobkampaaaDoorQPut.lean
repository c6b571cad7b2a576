/- What queue.Put answers. -/
import Derived.Test.YthdffdobkampaaaDoorQEntry
namespace Go.Proofs.YthdffdobkampaaaDoor
open Go.ChangeShapes Go.WideShapes Go.ChangeAt Go.RowKit
namespace Bw
open Bm Cm
theorem IsFrames.kept {w w' : World} {a : Option Addr} {n cap : Nat} {l : List FrV} (h : IsFrames w a n cap l) (hb : Below w.heap.size w w') : IsFrames w' a n cap l :=
  ⟨h.len, h.le, h.max, h.none, fun x hx i hi k hk => cell_kept hb (h.cell x hx i hi k hk), fun i hi => isBytes_below (h.bytes i hi) hb⟩
theorem IsFrames.all {w : World} {a : Option Addr} {n cap : Nat} {l : List FrV} (h : IsFrames w a n cap l) : ∀ v ∈ l, IsBytes w v.a v.len v.cap v.f.dt := by
  intro v hv
  obtain ⟨j, hj, rfl⟩ := List.mem_iff_getElem.1 hv
  exact h.bytes j hj
theorem padA_all (l : List FrV) : padA l l.length = l.map entOf ++ List.replicate (32 - l.length) zE := by unfold padA; rw [List.take_length]
/-- lineAndEntry's answer, whatever it is -/
theorem le_any (a : Option Addr) (n cap : Nat) (l : List FrV) (v : FrV) (w : World) (hS : SizesAt w) (hF : IsFrames w a n cap l) (hY : IsBytes w v.a v.len v.cap v.f.dt) :
    Calls Tryd.prog 28 #[.slice a n cap, frameV v.f.id v.f.lo v.f.fa v.f.re v.f.sz v.a v.len v.cap] w fun e w' => ∃ B m x, e = .returned (.tuple #[.agg (lnC B m).toArray, .agg x.cells.toArray, .int .i64 (leE l v.f)]) ∧ B.length = 32 ∧ (leE l v.f = 0 → B = padA l l.length ∧ m = l.length ∧ x = entOf v) ∧ Below w.heap.size w w' := by
  by_cases hc : chkQ (l.map (·.f)) = 0
  · have e0 : leE l v.f = frE v.f := by unfold leE; rw [if_pos hc]
    rw [e0]
    by_cases hE : frE v.f = 0
    · refine (le_ok a n cap l v w hS hF hY hc hE).mono ?_
      rintro e w' ⟨rfl, hb⟩
      exact ⟨_, _, _, by rw [hE], padA_len l l.length (Nat.le_refl _) (by obtain ⟨q, _⟩ := chk_ok hc; rw [List.length_map] at q; omega), fun _ => ⟨rfl, rfl, rfl⟩, hb⟩
    · refine (le_badF a n cap l v w hS hF hY hc hE).mono ?_
      rintro e w' ⟨rfl, hb⟩
      exact ⟨_, _, _, rfl, by simp, fun h => absurd h hE, hb⟩
  · have e0 : leE l v.f = chkQ (l.map (·.f)) := by unfold leE; rw [if_neg hc]
    rw [e0]
    refine (le_badQ a n cap l v w hS hF hc).mono ?_
    rintro e w' ⟨rfl, hb⟩
    exact ⟨_, _, _, rfl, by simp, fun h => absurd h hc, hb⟩
theorem two_new (W T : World) (hT : T = (W.alloc (Obj.cells Tryd.zeroCells55 55)).alloc (Obj.cells #[.string ⟨#[]⟩, .int .i64 0, .bool false, .bool false, .bool false, .int .i64 0, .slice none 0 0] 52)) : LnAt T W.heap.size (List.replicate 32 zE) 0 ∧ EnAt T (W.heap.size + 1) zE ∧ Below W.heap.size W T := by
  have hb : Below (W.alloc (Obj.cells Tryd.zeroCells55 55)).heap.size (W.alloc (Obj.cells Tryd.zeroCells55 55)) T := by rw [hT]; exact (Below.refl _ _).alloc (Nat.le_refl _) _
  have hs : (W.alloc (Obj.cells Tryd.zeroCells55 55)).heap.size = W.heap.size + 1 := by simp
  have h2 := EnAt.new (W.alloc (Obj.cells Tryd.zeroCells55 55)) zE
  rw [hs] at h2
  exact ⟨(LnAt.zero W).kept hb, by rw [hT]; exact h2, bl2 (below_zero W) hb⟩
def putE (l : List FrV) (f : Fr) : Int := if leE l f = 0 then (if l.length = 16 then 11 else 0) else leE l f
/-- put's answer, whatever it is -/
theorem put_any (l : List FrV) (v : FrV) (w : World) (hq : leE l v.f = 0) (hY : ∀ u ∈ l, IsBytes w u.a u.len u.cap u.f.dt) (hYv : IsBytes w v.a v.len v.cap v.f.dt) :
    Calls Tryd.prog 29 #[.agg (lnC (padA l l.length) l.length).toArray, .agg (entOf v).cells.toArray] w fun e w' => ∃ r l', e = .returned (.tuple #[r, .int .i64 (putE l v.f)]) ∧ OwnFrs w' w.heap.size r l' ∧ (putE l v.f = 0 → l'.map (·.f) = putF (l.map (·.f)) v.f) ∧ (putE l v.f ≠ 0 → r = .slice none 0 0 ∧ l' = []) ∧ Below w.heap.size w w' := by
  have hc : chkQ (l.map (·.f)) = 0 := by
    unfold leE at hq
    split at hq
    · rename_i h; exact h
    · rename_i h; exact absurd hq h
  have hE : frE v.f = 0 := by unfold leE at hq; rw [if_pos hc] at hq; exact hq
  obtain ⟨q1, q2, _⟩ := chk_ok hc
  rw [List.length_map] at q1
  rw [padA_all]
  have hlz : l.length + (List.replicate (32 - l.length) zE).length = 32 := by rw [List.length_replicate]; omega
  by_cases h16 : l.length = 16
  · have e0 : putE l v.f = 11 := by unfold putE; rw [if_pos hq, if_pos h16]
    rw [e0]
    refine (put_full l _ v w hlz h16).mono ?_
    rintro e w' ⟨rfl, hb⟩
    exact ⟨_, [], rfl, OwnFrs.nil _ _, (fun h => absurd h (by decide)), fun _ => ⟨rfl, rfl⟩, hb⟩
  · have e0 : putE l v.f = 0 := by unfold putE; rw [if_pos hq, if_neg h16]
    rw [e0]
    refine (put_room l _ v w hlz (by omega) hY (fun u hu => q2 _ (List.mem_map_of_mem hu)) hYv hE).mono ?_
    rintro e w' ⟨r, l', rfl, hf, ho, hb⟩
    exact ⟨r, l', rfl, ho, fun _ => hf, fun h => absurd rfl h, hb⟩
set_option maxHeartbeats 1000000 in
set_option maxRecDepth 100000 in
theorem Put_any (a : Option Addr) (n cap : Nat) (l : List FrV) (v : FrV) (w : World) (hS : SizesAt w) (hF : IsFrames w a n cap l) (hY : IsBytes w v.a v.len v.cap v.f.dt) :
    Calls Tryd.prog 8 #[.slice a n cap, frameV v.f.id v.f.lo v.f.fa v.f.re v.f.sz v.a v.len v.cap] w fun e w' => ∃ r l', e = .returned (.tuple #[r, .int .i64 (putE l v.f)]) ∧ OwnFrs w' w.heap.size r l' ∧ (putE l v.f = 0 → l'.map (·.f) = putF (l.map (·.f)) v.f) ∧ (putE l v.f ≠ 0 → r = .slice none 0 0 ∧ l' = []) ∧ Below w.heap.size w w' := by
  have hb0 := below_box w v.f.id v.f.lo v.f.fa v.f.re v.f.sz v.a v.len v.cap
  have h1 := le_any a n cap l v _ (hS.kept hb0) (hF.kept hb0) (isBytes_below hY hb0)
  have hYl := hF.all
  have h2 := fun W hq hb => put_any l v W hq (fun u hu => isBytes_below (hYl u hu) hb) (isBytes_below hY hb)
  have hput : leE l v.f ≠ 0 → putE l v.f = leE l v.f := fun h => by unfold putE; rw [if_neg h]
  have H1 := Hid.mk h1
  have H2 := Hid.mk h2
  have KB := Hid.mk hb0
  have HPT := Hid.mk hput
  unfold frameV at H1 ⊢
  unfold frameC at H1 KB
  clear hb0 h1 hYl h2 hS hF hY hput
  generalize putE l v.f = pe at *
  go_enter Tryd.func8, Tryd.ntmps8
  go_wp2_with fail
  refine H1.out.mono ?_
  rintro e w1 ⟨B, m, x, rfl, hBl, hok, hb1⟩
  obtain ⟨t0, t1, t2⟩ := two_new w1 _ rfl
  have KB1 := Hid.mk (bl2 KB.out (bl2 hb1 t2))
  have T0 := Hid.mk t0
  have T1 := Hid.mk t1
  have HOK := Hid.mk hok
  have hsz := (bl2 KB.out hb1).size
  have HLN := Hid.mk hsz
  clear hb1 t0 t1 t2 hok hsz
  by_cases hq : leE l v.f = 0
  · obtain ⟨rfl, rfl, rfl⟩ := HOK.out hq
    have H2q := Hid.mk (fun W hb => H2.out W hq hb)
    rw [hq]
    clear HOK H2 HPT hq
    go_wp2_with (first | ((with_reducible_and_instances refine wpl_store_line (.tmp 6) (.tmp 13) w1.heap.size (List.replicate 32 zE) (padA l l.length) 0 l.length ?_ ?_ T0.out hBl ?_); rfl; rfl; intro w5 hL5 hT5; have HL5 := Hid.mk hL5; have HT5 := Hid.mk hT5; clear hL5 hT5) | ((with_reducible_and_instances refine wpl_store_own (.tmp 7) (.tmp 14) (w1.heap.size + 1) zE (entOf v) ?_ ?_ (T1.out.tch HT5.out (by simp)) ?_); rfl; rfl; intro w6 hE6 hT6; have HE6 := Hid.mk hE6; have HL6 := Hid.mk (HL5.out.tch hT6 (by simp)); have HB6 := Hid.mk (Tch.below (Tch.below KB1.out HT5.out (by simp; exact HLN.out) (Nat.le_refl _)) hT6 (by simp; have := HLN.out; omega) (Nat.le_refl _)); clear hE6 hT6) | ((with_reducible_and_instances refine wpl_load_line (.tmp 6) w1.heap.size _ _ ?_ HL6.out ?_); rfl) | ((with_reducible_and_instances refine wpl_load_own (.tmp 7) (w1.heap.size + 1) (entOf v) ?_ HE6.out ?_); rfl))
    refine (H2q.out _ HB6.out).mono ?_
    rintro e w7 ⟨r, l', rfl, ho, hf, hn, hb7⟩
    go_wp2_with fail
    go_ret2
    exact ⟨r, l', rfl, ho.mono HB6.out.size, hf, hn, bl2 HB6.out hb7⟩
  · have hpe := HPT.out hq
    have hne : (leE l v.f != 0) = true := by simpa using hq
    generalize leE l v.f = le at *
    subst hpe
    go_wp2_with (first | ((with_reducible_and_instances refine wpl_store_line (.tmp 6) (.tmp 13) w1.heap.size (List.replicate 32 zE) B 0 m ?_ ?_ T0.out hBl ?_); rfl; rfl; intro w5 hL5 hT5; have HT5 := Hid.mk hT5; clear hL5 hT5) | ((with_reducible_and_instances refine wpl_store_own (.tmp 7) (.tmp 14) (w1.heap.size + 1) zE x ?_ ?_ (T1.out.tch HT5.out (by simp)) ?_); rfl; rfl; intro w6 hE6 hT6; have HB6 := Hid.mk (Tch.below (Tch.below KB1.out HT5.out (by simp; exact HLN.out) (Nat.le_refl _)) hT6 (by simp; have := HLN.out; omega) (Nat.le_refl _)); clear hE6 hT6))
    go_ret2
    exact ⟨_, [], rfl, OwnFrs.nil _ _, fun h => absurd h hq, fun _ => ⟨rfl, rfl⟩, HB6.out⟩
end Bw
end Go.Proofs.YthdffdobkampaaaDoor
