/- What bytes.Clone answers, and queue.framesOf: the frames of a line, each with bytes of its own. -/
import Derived.Test.YthdffdobkampaaaDoorQWith
import Derived.Test.YthdffdobkampaaaDoorRefOwn
import Derived.Test.YthdffdobkampaaaDoorAppTwo
import Derived.Test.YthdffdobkampaaaDoorFrRow
import Derived.Lib.SliceRun
namespace Go.Proofs.YthdffdobkampaaaDoor
open Go.ChangeShapes Go.WideShapes Go.ChangeAt Go.RowKit
namespace Bw
open Bm Cm Go.Sort
theorem info_fr : (Tryd.prog.info? 25).map (fun i => (i.zero, i.size, i.bytes)) = some (some (.agg #[.int .i64 0, .bool false, .bool false, .bool false, .int .i64 0, .slice none 0 0]), 6, 48) := by kernel_rfl
theorem eqlB_nil (w : World) (cap : Nat) : (binOp .eql 23 (.slice none 0 cap) (.slice none 0 0)).run Tryd.prog w = .ok (.bool true) w :=
  Lib.run_eql_slice_nil w 23 5 none 0 cap 0 0 Tryd.underlying23
theorem eqlB_some (w : World) (x : Addr) (n cap : Nat) : (binOp .eql 23 (.slice (some x) n cap) (.slice none 0 0)).run Tryd.prog w = .ok (.bool false) w :=
  Lib.run_eql_slice_nil w 23 5 (some x) n cap 0 0 Tryd.underlying23
set_option maxHeartbeats 4000000 in
set_option maxRecDepth 100000 in
/-- a copy, in memory of its own -/
theorem cloneB_any (a : Option Addr) (len cap : Nat) (dt : List UInt8) (w : World) (hY : IsBytes w a len cap dt) (hlen : len ≤ 140737488351232) :
    Calls Tryd.prog 44 #[.slice a len cap] w fun e w' => ∃ a' c', e = .returned (.slice a' len c') ∧ IsBytes w' a' len c' dt ∧ (∀ x, a' = some x → w.heap.size ≤ x.block) ∧ Below w.heap.size w w' := by
  obtain ⟨i0, hi, hz0, hz1, hz2⟩ := info_parts info_u8
  cases a with
  | none =>
    have hl0 := hY.2.2.2.1 rfl
    subst hl0
    have hd0 : dt = [] := List.eq_nil_of_length_eq_zero hY.1
    subst hd0
    have he := eqlB_nil w cap
    go_enter Tryd.func44, Tryd.ntmps44
    go_wp2_with fail
    go_ret
    exact ⟨none, 0, rfl, ⟨rfl, Nat.le_refl _, Nat.zero_le _, fun _ => rfl, fun x hx => by cases hx⟩, (fun x hx => by cases hx), Below.refl _ _⟩
  | some x =>
    have hB0 : Below w.heap.size w (w.alloc (.cells #[] 5)) := (Below.refl _ _).alloc (Nat.le_refl _) _
    have hY1 := isBytes_below hY hB0
    have hcl : (cellsOf dt).length = len * 1 := by rw [cellsOf_length, hY.1, Nat.mul_one]
    have hce := hY1.2.2.2.2 x rfl
    have hdl := hY.1
    have he := eqlB_some w x len cap
    have hcc : ∀ q u, (cellsOf dt)[q]? = some u → (w.alloc (.cells #[] 5)).cell? (x.add q) = some u := by
      intro q u hq
      have hq1 : q < dt.length := by
        rcases Nat.lt_or_ge q dt.length with hh | hh
        · exact hh
        · rw [List.getElem?_eq_none (by rw [cellsOf_length]; exact hh)] at hq; cases hq
      rw [hce q (by omega)]
      simp [cellsOf, hq1] at hq
      rw [← hq]; simp [List.getD, hq1]
    have HO := Hid.mk (show (w.alloc (.cells #[] 5)).ownsRow w.heap.size 5 1 (.slice (some ⟨w.heap.size, 0, none⟩) 0 0) 0 [] from World.ownsRow_made w #[] 0 (Nat.le_refl _) (Nat.zero_le _) rfl)
    have HB := Hid.mk hB0
    have HCC := Hid.mk hcc
    have HCL := Hid.mk hcl
    clear hY hB0 hY1 hcl hce hcc hdl
    go_enter Tryd.func44, Tryd.ntmps44
    go_wp2_with (at_builtin; refine wpList_append_own _ rfl (.tmp 5) (.tmp 6) 23 rfl w.heap.size 5 i0 (.int .u8 0) 1 1 Tryd.underlying23 hi hz0 hz1 hz2 rfl (by decide) _ _ _ rfl HO.out x len cap (cellsOf dt) rfl HCL.out HCC.out (by intro u hu; simp [cellsOf] at hu; obtain ⟨c, -, rfl⟩ := hu; rfl) (by unfold maxLen; omega) (by omega) (by simp) ?_; intro v3 w3 hown3 hgrow3 hnil3)
    have hown2 : w3.ownsRow w.heap.size 5 1 v3 len (cellsOf dt) := by simpa using hown3
    have hB3 : Below w.heap.size w w3 := Below.grown HB.out hgrow3 (by simp) (fun q hq => (HO.out.lt q hq).1)
    obtain ⟨ao, co, rfl, hby3, hblk⟩ := isBytes_ownO hown2
    go_ret
    exact ⟨ao, co, rfl, hby3, hblk, hB3⟩
theorem isBytes_grown {w w' : World} {row : Option Nat} {a : Option Addr} {len cap : Nat} {l : List UInt8} (h : IsBytes w a len cap l) (hg : w.grownBy w' row) (hne : l ≠ [] → ∀ x, a = some x → row ≠ some x.block) : IsBytes w' a len cap l := by
  refine ⟨h.1, h.2.1, h.2.2.1, h.2.2.2.1, fun x hx i hi => ?_⟩
  have hv := h.2.2.2.2 x hx i hi
  have hlt := block_lt_of_cell hv
  have hblk : (x.add i).block = x.block := by unfold Addr.add; split <;> rfl
  have hl : l ≠ [] := by intro e; subst e; have := h.1; simp at this; omega
  unfold World.cell? at hv ⊢
  rw [hg.block _ hlt (by rw [hblk]; exact fun e => hne hl x hx e.symm)]
  exact hv
/-- a row of frames of one's own, each with bytes that lie apart from it -/
structure OwnFrs (w : World) (base : Nat) (r : Value) (l : List FrV) : Prop where
  row : w.ownsRow base 25 6 r l.length (frC l)
  bytes : ∀ v ∈ l, IsBytes w v.a v.len v.cap v.f.dt
  apart : ∀ v ∈ l, v.f.dt ≠ [] → ∀ x, v.a = some x → r.ownBlock ≠ some x.block
  fresh : ∀ v ∈ l, ∀ x, v.a = some x → base ≤ x.block
theorem OwnFrs.nil (w : World) (base : Nat) : OwnFrs w base (.slice none 0 0) [] := ⟨World.ownsRow_nil _ _ _ _, (fun v hv => by cases hv), (fun v hv => by cases hv), fun v hv => by cases hv⟩
theorem OwnFrs.kept {w w' : World} {base : Nat} {r : Value} {l : List FrV} (h : OwnFrs w base r l) (hb : Below w.heap.size w w') : OwnFrs w' base r l :=
  ⟨ownsRow_below h.row hb, fun v hv => isBytes_below (h.bytes v hv) hb, h.apart, h.fresh⟩
theorem OwnFrs.frames {w : World} {base : Nat} {r : Value} {l : List FrV} (h : OwnFrs w base r l) : ∃ a cap, r = .slice a l.length cap ∧ IsFrames w a l.length cap l := by
  have h0 := h.row
  rcases h.row.2 with ⟨h1, h2⟩ | ⟨g, cap, cur, h1, hg, hh, hc, hm, hsz, htk⟩
  · have hl : l = [] := List.eq_nil_of_length_eq_zero h2
    subst hl
    exact ⟨none, 0, h1, rfl, Nat.le_refl _, Nat.zero_le _, fun _ => rfl, (fun x hx => by cases hx), fun i hi => absurd hi (Nat.not_lt_zero _)⟩
  · refine ⟨some ⟨g, 0, none⟩, cap, h1, rfl, hc, hm, (fun e => by cases e), ?_, fun i hi => h.bytes _ (List.getElem_mem hi)⟩
    intro x hx i hi k hk
    cases hx
    exact h0.cells (by rw [h1]; rfl) (i * 6 + k) _ (frC_at l i k hi hk)
/-- the same, a frame more -/
theorem OwnFrs.add {w w' : World} {base : Nat} {r r' : Value} {l : List FrV} {v : FrV} (h : OwnFrs w base r l) (hv : IsBytes w v.a v.len v.cap v.f.dt)
    (hva : ∀ x, v.a = some x → r.ownBlock ≠ some x.block) (hvf : ∀ x, v.a = some x → base ≤ x.block) (hrow : w'.ownsRow base 25 6 r' (l.length + 1) (frC l ++ v.cells)) (hg : w.grownBy w' r.ownBlock) (hb : r'.ownBlock = r.ownBlock ∨ r'.ownBlock = some w.heap.size) : OwnFrs w' base r' (l ++ [v]) := by
  have hall : ∀ u ∈ l ++ [v], IsBytes w u.a u.len u.cap u.f.dt ∧ (u.f.dt ≠ [] → ∀ x, u.a = some x → r.ownBlock ≠ some x.block) := by
    intro u hu
    rcases List.mem_append.1 hu with hu | hu
    · exact ⟨h.bytes u hu, h.apart u hu⟩
    · rw [List.mem_singleton] at hu; subst hu; exact ⟨hv, fun _ => hva⟩
  refine ⟨?_, fun u hu => isBytes_grown (hall u hu).1 hg (hall u hu).2, ?_, ?_⟩
  · have e : frC (l ++ [v]) = frC l ++ v.cells := by unfold frC; rw [List.flatMap_append]; simp
    rw [e, List.length_append]; exact hrow
  · intro u hu hne x hx
    rcases hb with hb | hb
    · rw [hb]; exact (hall u hu).2 hne x hx
    · rw [hb]
      intro e
      have e' := Option.some.inj e
      have hby := (hall u hu).1
      obtain ⟨c, t, hd⟩ : ∃ c t, u.f.dt = c :: t := by cases hq : u.f.dt with | nil => exact absurd hq hne | cons c t => exact ⟨c, t, rfl⟩
      have hl : 0 < u.len := by have := hby.1; rw [hd] at this; simp at this; omega
      have hlt2 := block_lt_of_cell (hby.2.2.2.2 x hx 0 hl)
      have hblk : (x.add 0).block = x.block := by unfold Addr.add; split <;> rfl
      rw [hblk] at hlt2
      omega
  · intro u hu x hx
    rcases List.mem_append.1 hu with hu | hu
    · exact h.fresh u hu x hx
    · rw [List.mem_singleton] at hu; subst hu; exact hvf x hx
theorem wpl_load_frV {ops : Array Oper} {rest : List Oper} {dst : Option Tmp} {ty : TypeId} {pos : String} {aft : Array Edge} {a : Act} {w : World} {Q : Exit → Act → World → Prop} (x : Operand) (b o i : Nat) (A : List Ent) (n : Int) (v : FrV) (hx : a.eval x = .pointer (some ⟨b, o, none⟩)) (hL : LnAt w b A n) (ho : o = i * 7 + 1) (hi : i < A.length) (hv : A[i].v = v)
    (h : wpList Tryd.prog ops Q rest (a.put dst (.agg #[.int .i64 v.f.id, .bool v.f.lo, .bool v.f.fa, .bool v.f.re, .int .i64 v.f.sz, .slice v.a v.len v.cap])) w) :
    wpList Tryd.prog ops Q (Oper.mk dst (.load 25 x) ty pos aft none :: rest) a w := by
  subst hv
  exact wpl_load_fr x b o i A n hx hL ho hi h
theorem own_lt {w : World} {base : Nat} {t : TypeId} {size : Nat} {v : Value} {n : Nat} {xs : List Value} (h : w.ownsRow base t size v n xs) : ∀ x, v.ownBlock = some x → x < w.heap.size := by
  intro x hx
  rcases h.2 with ⟨h1, _⟩ | ⟨g, cap, cur, h1, hg, hh, _⟩
  · rw [h1] at hx; cases hx
  · rw [h1] at hx; cases hx
    exact (Array.getElem?_eq_some_iff.1 hh).1
theorem new_cells {W : World} {s : Nat} (hs : W.heap.size = s) (cs : List Value) (t : TypeId) : ∀ q u, cs[q]? = some u → (W.alloc (.cells cs.toArray t)).cell? (Addr.add ⟨s, 0, none⟩ q) = some u := by
  intro q u hq
  subst hs
  have e : (Addr.add ⟨W.heap.size, 0, none⟩ q) = ⟨W.heap.size, 0 + q, none⟩ := Addr.add_mid _ _ _
  rw [e, Nat.zero_add, cell_of_row _ _ q _ _ _ (heap_alloc_new W _), List.getElem?_toArray]
  exact hq
def entOf (v : FrV) : Ent := ⟨nameL v.f, v⟩
set_option maxHeartbeats 8000000 in
set_option maxRecDepth 100000 in
theorem framesOf_A (A : List Ent) (N : Nat) (w : World) (hA : A.length = 32) (hn : N ≤ 32) (hY : ∀ i (h : i < A.length), i < N → IsBytes w A[i].v.a A[i].v.len A[i].v.cap A[i].v.f.dt) (hE : ∀ i (h : i < A.length), i < N → A[i].v.f.dt.length ≤ 64) :
    Calls Tryd.prog 30 #[.agg (lnC A N).toArray] w fun e w' => ∃ r l', e = .returned r ∧ l'.length = N ∧ l'.map (·.f) = (A.take N).map (·.v.f) ∧ OwnFrs w' (w.heap.size + 1) r l' ∧ Below w.heap.size w w' := by
  obtain ⟨i0, hi, hz0, hz1, hz2⟩ := info_parts info_fr
  have hL0 := LnAt.new w A N hA
  have hB0 : Below w.heap.size w (w.alloc (lnO A N)) := (Below.refl _ _).alloc (Nat.le_refl _) _
  unfold lnO at hL0 hB0
  have c224 := hL0.size
  have K0 := Hid.mk hL0
  have KB := Hid.mk hB0
  have HY := Hid.mk hY
  have HE := Hid.mk hE
  clear hL0 hB0 hY hE
  generalize hCe : (lnC A N).toArray = C at *
  clear hCe
  go_enter Tryd.func30, Tryd.ntmps30
  go_wp2_with fail
  go_loopw [3, 8] (fun r i wr => ∃ (k : Nat) (l' : List FrV), k ≤ N ∧ i = .int .i64 k ∧ Hid (l'.length = k ∧ l'.map (·.f) = (A.take k).map (·.v.f)) ∧ Hid (OwnFrs wr (w.heap.size + 1) r l') ∧ Hid (LnAt wr w.heap.size A N) ∧ Hid (Below (w.heap.size + 1) (w.alloc (Obj.cells C 55)) wr)) (fun _ i _ => N - (intOf i).toNat)
  case atStart => exact ⟨0, [], Nat.zero_le _, rfl, Hid.mk ⟨rfl, rfl⟩, Hid.mk (OwnFrs.nil _ _), K0, Hid.mk (Below.refl _ _)⟩
  case round =>
    obtain ⟨k, l', hk, rfl, HM, HO, HL, HB⟩ := hrel
    by_cases hlt : k < N
    · have hlt' : (k : Int) < (N : Int) := by omega
      have hkA : k < A.length := by omega
      have hby := HY.out k hkA hlt
      have h64 := HE.out k hkA hlt
      have htk : (A.take (k + 1)).map (·.v.f) = (A.take k).map (·.v.f) ++ [A[k].v.f] := by rw [List.take_succ_eq_append_getElem hkA, List.map_append]; rfl
      obtain ⟨v, hkv⟩ : ∃ v, A[k].v = v := ⟨_, rfl⟩
      rw [hkv] at hby h64 htk
      obtain ⟨⟨id, lo, fa, re, sz, dt⟩, va, vl, vc⟩ := v
      simp only at hby h64 htk
      have hbw : Below w.heap.size w wr := KB.out.trans (HB.out.mono (Nat.le_succ _))
      have hby1 := isBytes_below hby hbw
      have hbx := below_box wr id lo fa re sz va vl vc
      have hby2 := isBytes_below hby1 hbx
      have hcl := cloneB_any va vl vc dt _ hby2 (by have := hby.1; omega)
      have hfr := heap_alloc_new wr (frameC id lo fa re sz va vl vc)
      have hsz : (wr.alloc (frameC id lo fa re sz va vl vc)).heap.size = wr.heap.size + 1 := by simp
      have HLT := Hid.mk (own_lt HO.out.row)
      have hszw : w.heap.size + 1 ≤ wr.heap.size := by have := HB.out.size; simpa using this
      have HSW := Hid.mk hszw
      have HBX := Hid.mk hbx
      have HCL := Hid.mk hcl
      have HFR := Hid.mk hfr
      have HTK := Hid.mk htk
      have HSZ := Hid.mk hsz
      have HML := Hid.mk HM.out.1
      unfold frameC at HBX HCL HFR HSZ
      clear hby hby1 hby2 hbx hcl hfr htk hbw hsz h64 hszw
      go_wp2_with (first | ((with_reducible_and_instances refine wpl_load_frV (.tmp 14) w.heap.size (k * 7 + 1) k A N ⟨⟨id, lo, fa, re, sz, dt⟩, va, vl, vc⟩ ?_ HL.out rfl hkA hkv ?_); rfl))
      refine HCL.out.mono ?_
      rintro e w2 ⟨a2, c2, rfl, hY2, hblk2, hb2⟩
      have hbr2 := bl2 HBX.out hb2
      rw [HSZ.out] at hb2 hblk2
      have r1 := (hb2.block wr.heap.size (by omega)).trans HFR.out
      have hsz2 : wr.heap.size + 1 ≤ w2.heap.size := by have := hb2.size; rw [HSZ.out] at this; exact this
      have q0 := cell_of_row w2 wr.heap.size 0 _ _ _ r1
      simp at q0
      have q1 := cell_of_row w2 wr.heap.size 1 _ _ _ r1
      simp at q1
      have q2 := cell_of_row w2 wr.heap.size 2 _ _ _ r1
      simp at q2
      have q3 := cell_of_row w2 wr.heap.size 3 _ _ _ r1
      simp at q3
      have q4 := cell_of_row w2 wr.heap.size 4 _ _ _ r1
      simp at q4
      have q5 := cell_of_row w2 wr.heap.size 5 _ _ _ r1
      simp at q5
      have f5 := frozen_of_row w2 wr.heap.size 5 _ _ r1
      have r2 := heap_setCell_same w2 wr.heap.size 5 _ _ (.slice a2 vl c2) r1
      simp only [List.setIfInBounds_toArray, List.set_cons_zero, List.set_cons_succ] at r2
      have s5 := cell_of_row _ wr.heap.size 5 _ _ _ r2
      simp at s5
      have hT : Tch [wr.heap.size] w2 (w2.setCell ⟨wr.heap.size, 5, none⟩ (.slice a2 vl c2)) := (Tch.refl _ _).setK (by simp) _ _
      have HY3 := Hid.mk (isBytes_tchO hY2 hT (by intro x hx; have := hblk2 x hx; simp; omega))
      have hbr3 := Tch.below hbr2 hT (by simp) (Nat.le_refl _)
      have HO3 := Hid.mk (HO.out.kept hbr3)
      have HL3 := Hid.mk (HL.out.kept hbr3)
      have HB3 := Hid.mk (HB.out.trans (hbr3.mono HSW.out))
      have hs3 : (w2.setCell ⟨wr.heap.size, 5, none⟩ (.slice a2 vl c2)).heap.size = w2.heap.size := by simp
      have HS3 := Hid.mk hs3
      have HBL := Hid.mk hblk2
      have HS2 := Hid.mk hsz2
      clear hbr2 hb2 r1 r2 hT hbr3 hY2 hblk2 hs3 hsz2
      go_wp2_with (at_builtin; refine wpList_append_two rfl (.tmp 20) (.tmp 22) 22 rfl (w.heap.size + 1) 25 i0 (.agg #[.int .i64 0, .bool false, .bool false, .bool false, .int .i64 0, .slice none 0 0]) 6 48 Tryd.underlying22 hi hz0 hz1 hz2 rfl (by decide) _ _ _ rfl (HO3.out.row.alloc _) ⟨w2.heap.size, 0, none⟩ 1 1 [.int .i64 id, .bool lo, .bool fa, .bool re, .int .i64 sz, .slice a2 vl c2] rfl rfl (new_cells HS3.out _ _) (by intro u hu; simp at hu; rcases hu with rfl | rfl | rfl | rfl | rfl | rfl <;> rfl) (by decide) (by have := HML.out; unfold maxLen; omega) (by have := HML.out; omega) (by have := HSW.out; have := HS2.out; simp; omega) ?_; intro v3 w3 hown3 hgrow3 hblk3)
      have hb4 : Below (w2.setCell ⟨wr.heap.size, 5, none⟩ (.slice a2 vl c2)).heap.size (w2.setCell ⟨wr.heap.size, 5, none⟩ (.slice a2 vl c2)) ((w2.setCell ⟨wr.heap.size, 5, none⟩ (.slice a2 vl c2)).alloc (.cells #[.int .i64 id, .bool lo, .bool fa, .bool re, .int .i64 sz, .slice a2 vl c2] 25)) := (Below.refl _ _).alloc (Nat.le_refl _) _
      have hO4 := (HO3.out.kept hb4).add (v := ⟨⟨id, lo, fa, re, sz, dt⟩, a2, vl, c2⟩) (isBytes_below HY3.out hb4) (by intro x hx e; have := HBL.out x hx; have := HLT.out _ e; omega) (by intro x hx; have := HBL.out x hx; have := HSW.out; omega) hown3 hgrow3 hblk3
      have hwle : w.heap.size + 1 ≤ (w2.setCell ⟨wr.heap.size, 5, none⟩ (.slice a2 vl c2)).heap.size := by rw [HS3.out]; have := HSW.out; have := HS2.out; omega
      have hB5 := Below.grown (HB3.out.trans (hb4.mono hwle)) hgrow3 (by simp; have := HSW.out; have := HS2.out; omega) (fun q hq => (HO3.out.row.lt q hq).1)
      have hL5 : LnAt w3 w.heap.size A N := K0.out.kept (by have : (w.alloc (Obj.cells C 55)).heap.size = w.heap.size + 1 := by simp
                                                            rw [this]; exact hB5)
      clear hown3 hgrow3 hblk3 hb4
      go_wp2_with fail
      go_roundw
      case rel => exact ⟨k + 1, l' ++ [⟨⟨id, lo, fa, re, sz, dt⟩, a2, vl, c2⟩], by omega, by go_num, Hid.mk ⟨by rw [List.length_append, HML.out]; rfl, by rw [List.map_append, HM.out.2, HTK.out]; rfl⟩, Hid.mk hO4, Hid.mk hL5, Hid.mk hB5⟩
      case measure => simp [intOf]; omega
    · obtain rfl : k = N := by omega
      go_wp2_with fail
      go_ret
      exact ⟨_, l', rfl, HM.out.1, HM.out.2, HO.out, KB.out.trans (HB.out.mono (Nat.le_succ _))⟩
end Bw
end Go.Proofs.YthdffdobkampaaaDoor
