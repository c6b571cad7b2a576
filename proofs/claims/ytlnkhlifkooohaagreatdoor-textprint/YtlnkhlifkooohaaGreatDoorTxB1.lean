/- text.read of right lines. -/
import Derived.Test.YtlnkhlifkooohaaGreatDoorMsgRow
import Derived.Lib.AppendZeros
import Derived.Deep.OwnRows
import Derived.Test.YtlnkhlifkooohaaGreatDoorTxA1
import Derived.Deep.AppendLies
import Derived.Defers
import Derived.Recover
namespace Go.Proofs.YtlnkhlifkooohaaGreatDoor
open Go.ChangeShapes Go.WideShapes Go.ChangeAt Go.RowKit
namespace Bw
open Sm
theorem info_sg : (Tryz.prog.info? 42).map (fun i => (i.zero, i.size, i.bytes)) = some (some (.agg #[.string ⟨#[]⟩, .int .i64 0, .int .i64 0, .bool false, .bool false, .int .i64 0, .int .i64 0, .int .i64 0, .int .i64 0]), 9, 72) := by kernel_rfl
/-- signals as cells -/
def sgsC (l : List Sig) : List Value := l.flatMap sgCl
theorem sgsC_cons (x : Sig) (l : List Sig) : sgsC (x :: l) = sgCl x ++ sgsC l := by simp [sgsC]
theorem sgsC_append (a b : List Sig) : sgsC (a ++ b) = sgsC a ++ sgsC b := by simp [sgsC]
theorem sgsC_len : ∀ l : List Sig, (sgsC l).length = l.length * 9
  | [] => rfl
  | x :: l => by rw [sgsC_cons, List.length_append, sgsC_len l]; simp [sgCl]; omega
theorem sgsC_at : ∀ (l : List Sig) (i : Nat) (hi : i < l.length) (k : Nat), k < 9 → (sgsC l)[i * 9 + k]? = (sgCl l[i])[k]?
  | [], i, hi, _, _ => absurd hi (Nat.not_lt_zero _)
  | x :: l, 0, _, k, hk => by
    rw [sgsC_cons, List.getElem?_append_left (by simp [sgCl]; omega)]
    simp
  | x :: l, i + 1, hi, k, hk => by
    have := sgsC_at l i (by simpa using hi) k hk
    rw [sgsC_cons, List.getElem?_append_right (by simp [sgCl]; omega)]
    rw [show (i + 1) * 9 + k - (sgCl x).length = i * 9 + k by simp [sgCl]; omega, this]
    simp
theorem sgsC_one (l : List Sig) : ∀ u ∈ sgsC l, u.oneCell' = true := by
  intro u hu
  unfold sgsC at hu
  rw [List.mem_flatMap] at hu
  obtain ⟨x, _, hx⟩ := hu
  unfold sgCl at hx
  simp only [List.mem_cons, List.not_mem_nil, or_false] at hx
  rcases hx with rfl | rfl | rfl | rfl | rfl | rfl | rfl | rfl | rfl <;> rfl
theorem sgs_news {w : World} {y : Addr} {n cap : Nat} {l : List Sig} (h : IsSigs w (some y) n cap l) : ∀ j u, (sgsC l)[j]? = some u → w.cell? (y.add j) = some u := by
  intro j u hj
  have hlt : j < (sgsC l).length := by
    rcases Nat.lt_or_ge j (sgsC l).length with h1 | h1
    · exact h1
    · rw [List.getElem?_eq_none h1] at hj
      cases hj
  rw [sgsC_len] at hlt
  have h9 : j / 9 < l.length := by omega
  have e : j = j / 9 * 9 + j % 9 := by omega
  have h1 := h.cell y rfl (j / 9) h9 (j % 9) (by omega)
  have h2 := sgsC_at l (j / 9) h9 (j % 9) (by omega)
  rw [← e] at h1 h2
  rw [h1, ← h2, hj]
/-- a row of signals of one's own is a row -/
theorem sgs_own {w : World} {base : Nat} {u : Value} {n : Nat} {l : List Sig} (h : w.ownsRow base 42 9 u n (sgsC l)) (hn : l.length = n) : ∃ a c, u = .slice a n c ∧ IsSigs w a n c l := by
  subst hn
  have h0 := h
  obtain ⟨hl, h2⟩ := h
  rcases h2 with ⟨h3, h4⟩ | ⟨g', cap, cur, hv, hg, hh, hc, hm, hsz, htk⟩
  · refine ⟨none, 0, ?_, ?_⟩
    · rw [h3, h4]
    · exact ⟨rfl, by omega, Nat.zero_le _, fun _ => h4, fun _ e => by cases e⟩
  · refine ⟨some ⟨g', 0, none⟩, cap, hv, rfl, hc, hm, (fun e => by cases e), fun x hx i hi k hk => ?_⟩
    cases hx
    have h5 : i * 9 + k < (sgsC l).length := by rw [sgsC_len]; omega
    have h6 := sgsC_at l i hi k hk
    rw [← h6, List.getElem?_eq_getElem h5]
    subst hv
    exact h0.cells rfl _ _ (List.getElem?_eq_getElem h5)
theorem elem_sg : Tryz.prog.elem 22 = 42 := by kernel_rfl
theorem size_sg (W : World) : (sizeOf 42).run Tryz.prog W = .ok 9 W := by simp [go_sem]
theorem und_sg : Tryz.prog.underlying 22 = some (.slice (Tryz.prog.elem 22)) := by rw [elem_sg]; exact Tryz.underlying22
theorem slice_hS (x : Addr) (n c k : Nat) (hk : k ≤ c) (W : World) : (Instr.slice 22 (.slice (some x) n c) none (some (.int .i64 (k : Int))) none).run Tryz.prog W = .ok (.slice (some x) k c) W := by
  rw [run_slice_h (ht := und_sg) (h0 := by omega) (h2 := by omega), elem_sg, size_sg]
  simp [Result.andThen, sliced]
  intro _
  simp [Addr.add]
theorem slice_lS (x : Addr) (n c k : Nat) (hk : k < n) (W : World) : (Instr.slice 22 (.slice (some x) n c) (some (.int .i64 ((k : Int) + 1))) none none).run Tryz.prog W = .ok (.slice (some (if c = k + 1 then x else x.add ((k + 1) * 9))) (n - (k + 1)) (c - (k + 1))) W := by
  rw [run_slice_l (ht := und_sg) (h0 := by omega) (h1 := by omega), elem_sg, size_sg]
  have e : ((k : Int) + 1).toNat = k + 1 := by omega
  simp only [Result.andThen, sliced, e]
  split <;> rfl
theorem sigs_drop {w : World} {x : Addr} {n c : Nat} {l : List Sig} (h : IsSigs w (some x) n c l) {k : Nat} (hk : k ≤ n) : IsSigs w (some (if c = k then x else x.add (k * 9))) (n - k) (c - k) (l.drop k) := by
  have hl := h.len
  have hle := h.le
  have hm := h.max
  refine ⟨by rw [List.length_drop]; omega, by omega, by omega, (fun h => by cases h), fun y hy i hi q hq => ?_⟩
  rw [List.length_drop] at hi
  rw [if_neg (by omega)] at hy
  cases hy
  have ea : ∀ j, (x.add (k * 9)).add j = x.add (k * 9 + j) := fun j => by
    first | exact Addr.add_add _ _ _ | (unfold Addr.add; simp; omega)
  have h1 := h.cell x rfl (k + i) (by omega) q hq
  rw [ea, show k * 9 + (i * 9 + q) = (k + i) * 9 + q by omega, h1, List.getElem_drop]
set_option maxHeartbeats 4000000 in
set_option maxRecDepth 100000 in
theorem growS_zero (w : World) :
    Calls Tryz.prog 88 #[.slice none 0 0, .int .i64 0] w fun e w' => e = .returned (.slice none 0 0) ∧ w' = w := by
  go_enter Tryz.func88, Tryz.ntmps88
  go_wp2_with fail
  go_ret
  exact ⟨rfl, rfl⟩
set_option maxHeartbeats 4000000 in
set_option maxRecDepth 100000 in
theorem growS_pos (n : Nat) (w : World) (h0 : 0 < n) (h48 : n ≤ 1000) :
    Calls Tryz.prog 88 #[.slice none 0 0, .int .i64 n] w fun e w' => ∃ C cur, e = .returned (.slice (some ⟨w.heap.size, 0, none⟩) 0 C) ∧
      w'.heap[w.heap.size]? = some (.cells cur 42 (0, 0)) ∧ cur.size = C * 9 ∧ n ≤ C ∧ C ≤ maxLen ∧ Below w.heap.size w w' := by
  obtain ⟨i0, hi, hz0, hz1, hz2⟩ := info_parts info_sg
  have happ := Lib.run_append_nil_zeros (P := Tryz.prog) w 22 3 22 42 i0 _ .i64 .i64 Tryz.underlying22 Tryz.underlying3 hi hz0 n h0 (by omega) (by omega) (by rw [hz2]; omega)
  have hge := grownCap_ge w n 0 42
  have hle := grownCap_le_maxLen w n 0 42 (by unfold maxLen; omega)
  generalize grownCap w n 0 42 = C at *
  obtain ⟨Z, hZ⟩ : ∃ Z, Z = (Builtin.zeroCells (Value.agg #[.string ⟨#[]⟩, .int .i64 0, .int .i64 0, .bool false, .bool false, .int .i64 0, .int .i64 0, .int .i64 0, .int .i64 0]).cells n ++ Builtin.zeroCells (Value.agg #[.string ⟨#[]⟩, .int .i64 0, .int .i64 0, .bool false, .bool false, .int .i64 0, .int .i64 0, .int .i64 0, .int .i64 0]).cells (C - n)) := ⟨_, rfl⟩
  rw [← hZ] at happ
  have hZs : Z.size = C * 9 := by rw [hZ]; simp [size_zeroCells, Value.cells]; omega
  have hs0 : ∀ W, (Instr.slice 22 (.slice (some ⟨w.heap.size, 0, none⟩) n C) none (some (.int .i64 0)) none).run Tryz.prog W = .ok (.slice (some ⟨w.heap.size, 0, none⟩) 0 C) W := fun W => slice_hS ⟨w.heap.size, 0, none⟩ n C 0 (Nat.zero_le _) W
  have HH := Hid.mk (heap_alloc_new w.drew (.cells Z 42))
  have HB : Hid (Below w.heap.size w (w.drew.alloc (.cells Z 42))) := Hid.mk ((show Below w.heap.size w w.drew from ⟨rfl, rfl, rfl, Nat.le_refl _, fun _ _ => rfl⟩).alloc (Nat.le_refl _) _)
  have hn' : (0 : Int) < (n : Int) := by omega
  have hn2 : (n : Int) ≤ 281474976710656 := by omega
  have HAP := Hid.mk happ
  clear happ hZ
  go_enter Tryz.func88, Tryz.ntmps88
  go_wp2_with (at_builtin; refine Lib.wpList_append_run _ rfl _ _ _ _ rfl _ _ rfl rfl _ _ HAP.out ?_)
  go_ret
  exact ⟨C, Z, rfl, HH.out, hZs, hge, hle, HB.out⟩
theorem growS_any (n : Nat) (w : World) (h48 : n ≤ 1000) :
    Calls Tryz.prog 88 #[.slice none 0 0, .int .i64 n] w fun e w' => ∃ u, e = .returned u ∧ Hid (w'.ownsRow w.heap.size 42 9 u 0 (sgsC [])) ∧ Below w.heap.size w w' := by
  rcases Nat.eq_zero_or_pos n with h | h
  · subst h
    refine (growS_zero w).mono ?_
    rintro e w' ⟨rfl, rfl⟩
    exact ⟨_, rfl, Hid.mk ⟨rfl, .inl ⟨rfl, rfl⟩⟩, Below.refl _ _⟩
  · refine (growS_pos n w h h48).mono ?_
    rintro e w' ⟨C, cur, rfl, hh, hcs, hnC, hC, hb⟩
    exact ⟨_, rfl, Hid.mk ⟨rfl, .inr ⟨_, C, cur, rfl, Nat.le_refl _, hh, Nat.zero_le _, hC, hcs, by simp [sgsC]⟩⟩, hb⟩
structure TwoSg (w : World) (g : Nat) (x : Addr) (na ca : Nat) (y : Addr) (nb cb : Nat) : Prop where
  c0 : w.cell? ⟨g, 0, none⟩ = some (.slice (some x) na ca)
  c1 : w.cell? ⟨g, 1, none⟩ = some (.slice (some y) nb cb)
theorem TwoSg.kept {w w' : World} {g : Nat} {x : Addr} {na ca : Nat} {y : Addr} {nb cb : Nat} (h : TwoSg w g x na ca y nb cb) (hb : Below w.heap.size w w') : TwoSg w' g x na ca y nb cb := ⟨cell_kept hb h.c0, cell_kept hb h.c1⟩
theorem own_below {w0 w w' : World} {base : Nat} {e : TypeId} {size : Nat} {v : Value} {n : Nat} {xs : List Value} (h : Below w0.heap.size w0 w) (ho : w.ownsRow w0.heap.size e size v n xs) (hg : w.grownBy w' v.ownBlock) (_ : base = w0.heap.size) : Below w0.heap.size w0 w' :=
  Below.grown h hg h.size (fun q hq => by
    rcases ho.2 with ⟨h1, _⟩ | ⟨g, cap, cur, hv, hb, _⟩
    · subst h1; cases hq
    · subst hv
      have e : g = q := by simpa [Value.ownBlock] using hq
      omega)
set_option maxHeartbeats 8000000 in
set_option maxRecDepth 100000 in
theorem concatS_any (g : Nat) (x : Addr) (na ca : Nat) (la : List Sig) (y : Addr) (nb cb : Nat) (lb : List Sig) (w : World) (hT : TwoSg w g x na ca y nb cb) (hF : IsSigs w (some x) na ca la) (hFb : IsSigs w (some y) nb cb lb) (h48 : na + nb ≤ 1000) :
    Calls Tryz.prog 39 #[.slice (some ⟨g, 0, none⟩) 2 2] w fun e w' => ∃ u, e = .returned u ∧ Hid (w'.ownsRow w.heap.size 42 9 u (na + nb) (sgsC (la ++ lb))) ∧ Below w.heap.size w w' := by
  obtain ⟨i0, hi, hz0, hz1, hz2⟩ := info_parts info_sg
  have HG := Hid.mk (growS_any (na + nb) w h48)
  rw [show (((na + nb : Nat)) : Int) = (na : Int) + (nb : Int) by omega] at HG
  have HT := Hid.mk hT
  have HF := Hid.mk hF
  have HFb := Hid.mk hFb
  have HL : Hid (la.length = na ∧ lb.length = nb) := Hid.mk ⟨hF.len, hFb.len⟩
  have hna : (na : Int) ≤ 1000 := by omega
  have hnb : (nb : Int) ≤ 1000 := by omega
  have HI := Hid.mk hi
  have HZ0 := Hid.mk hz0
  have HZ1 := Hid.mk hz1
  have HZ2 := Hid.mk hz2
  clear hT hF hFb hi hz0 hz1 hz2
  go_enter Tryz.func39, Tryz.ntmps39
  go_wp2_with fail
  go_loopw [3, 11] (fun s i wr => wr = w ∧ ((i = .int .i64 0 ∧ s = .int .i64 0) ∨ (i = .int .i64 1 ∧ s = .int .i64 (na : Int)) ∨ (i = .int .i64 2 ∧ s = .int .i64 ((na : Int) + (nb : Int))))) (fun _ i _ => 2 - (intOf i).toNat)
  case atStart => exact ⟨rfl, .inl ⟨rfl, rfl⟩⟩
  case round =>
    obtain ⟨hwr, ⟨rfl, rfl⟩ | ⟨rfl, rfl⟩ | ⟨rfl, rfl⟩⟩ := hrel
    · subst hwr
      obtain ⟨t0, t1⟩ := HT.out
      go_wp2_with fail
      go_roundw
      case rel => exact ⟨trivial, .inr (.inl ⟨rfl, by simp⟩)⟩
      case measure => simp [intOf]
    · subst hwr
      obtain ⟨t0, t1⟩ := HT.out
      go_wp2_with fail
      go_roundw
      case rel => exact ⟨trivial, .inr (.inr ⟨rfl, rfl⟩)⟩
      case measure => simp [intOf]
    · subst hwr
      go_wp2_with fail
      refine HG.out.mono ?_
      rintro e w1 ⟨u1, rfl, HR1, hb1⟩
      have HB1 := Hid.mk hb1
      clear hb1
      go_wp2_with fail
      obtain ⟨wz, hwz⟩ : ∃ wz, wz = wr := ⟨_, rfl⟩
      rw [← hwz] at HF HFb HT HR1 HB1
      have HWZ := Hid.mk hwz
      clear hwz HG
      go_loopw [6, 27] (fun v i wr => Hid (Below wz.heap.size wz wr) ∧ ((i = .int .i64 0 ∧ Hid (wr.ownsRow wz.heap.size 42 9 v 0 (sgsC []))) ∨ (i = .int .i64 1 ∧ Hid (wr.ownsRow wz.heap.size 42 9 v na (sgsC la))) ∨ (i = .int .i64 2 ∧ Hid (wr.ownsRow wz.heap.size 42 9 v (na + nb) (sgsC (la ++ lb)))))) (fun _ i _ => 2 - (intOf i).toNat)
      case atStart => exact ⟨HB1, .inl ⟨rfl, HR1⟩⟩
      case round =>
        rename_i v0 i0' _
        obtain ⟨HB, ⟨rfl, HR⟩ | ⟨rfl, HR⟩ | ⟨rfl, HR⟩⟩ := hrel
        · obtain ⟨t0, t1⟩ := HT.out.kept HB.out
          have HSZ := Hid.mk HB.out.size
          obtain ⟨v', w', hr5, ho5, hg5, -⟩ := run_append_own (P := Tryz.prog) _ wz.heap.size 22 22 42 i0 _ 9 72 Tryz.underlying22 HI.out HZ0.out HZ1.out HZ2.out rfl (by decide) _ _ _ HR.out x na ca (sgsC la) (by rw [sgsC_len, HL.out.1]) (sgs_news (HF.out.kept HB.out)) (sgsC_one la) (by unfold maxLen; omega) (by omega) HSZ.out
          rw [show sgsC [] ++ sgsC la = sgsC la by simp [sgsC], Nat.zero_add] at ho5
          have HAP := Hid.mk hr5
          have HR5 := Hid.mk ho5
          have HB5 := Hid.mk (own_below HB.out HR.out hg5 rfl)
          clear hr5 ho5 hg5
          go_wp2_with (at_builtin; refine Lib.wpList_append_run _ rfl _ _ _ _ rfl _ _ rfl rfl _ _ HAP.out ?_)
          go_roundw
          case rel => exact ⟨HB5, .inr (.inl ⟨rfl, HR5⟩)⟩
          case measure => simp [intOf]
        · obtain ⟨t0, t1⟩ := HT.out.kept HB.out
          have HSZ := Hid.mk HB.out.size
          obtain ⟨v', w', hr5, ho5, hg5, -⟩ := run_append_own (P := Tryz.prog) _ wz.heap.size 22 22 42 i0 _ 9 72 Tryz.underlying22 HI.out HZ0.out HZ1.out HZ2.out rfl (by decide) _ _ _ HR.out y nb cb (sgsC lb) (by rw [sgsC_len, HL.out.2]) (sgs_news (HFb.out.kept HB.out)) (sgsC_one lb) (by unfold maxLen; omega) (by omega) HSZ.out
          rw [← sgsC_append] at ho5
          have HAP := Hid.mk hr5
          have HR5 := Hid.mk ho5
          have HB5 := Hid.mk (own_below HB.out HR.out hg5 rfl)
          clear hr5 ho5 hg5
          go_wp2_with (at_builtin; refine Lib.wpList_append_run _ rfl _ _ _ _ rfl _ _ rfl rfl _ _ HAP.out ?_)
          go_roundw
          case rel => exact ⟨HB5, .inr (.inr ⟨rfl, HR5⟩)⟩
          case measure => simp [intOf]
        · go_wp2_with fail
          go_ret
          exact ⟨_, rfl, by rw [← HWZ.out]; exact HR, by rw [← HWZ.out]; exact HB.out⟩
end Bw
end Go.Proofs.YtlnkhlifkooohaaGreatDoor
namespace Go.Proofs.YtlnkhlifkooohaaGreatDoor
open Go.ChangeShapes Go.WideShapes Go.ChangeAt Go.RowKit Go.Sort
namespace Bw
open Sm
/-- a message whose Chooser is still a word -/
structure Dr where
  id : Int
  lo : Bool
  nm : ByteArray
  size : Int
  wd : ByteArray
  sigs : List Sig
def drCl (x : Dr × Value) : List Value := [.int .i64 x.1.id, .bool x.1.lo, .string x.1.nm, .int .i64 x.1.size, .int .i64 0, x.2, .string x.1.wd]
def drsC (l : List (Dr × Value)) : List Value := l.flatMap drCl
theorem drsC_snoc (l : List (Dr × Value)) (x : Dr × Value) : drsC (l ++ [x]) = drsC l ++ drCl x := by simp [drsC]
theorem drsC_len : ∀ l : List (Dr × Value), (drsC l).length = l.length * 7
  | [] => rfl
  | x :: l => by rw [show drsC (x :: l) = drCl x ++ drsC l by simp [drsC], List.length_append, drsC_len l]; simp [drCl]; omega
/-- the row of signals of a draft is its own -/
def SRow (w : World) (base : Nat) (x : Dr × Value) : Prop := w.ownsRow base 42 9 x.2 x.1.sigs.length (sgsC x.1.sigs)
/-- the reader's variable, its row of drafts, the rows of their signals: the last one's own block is from Bm on, the others' below -/
structure RdS (w : World) (g base Bm : Nat) (ln : Int) (v : Value) (pre : List (Dr × Value)) (cur : Option (Dr × Value)) : Prop where
  rd : w.heap[g]? = some (.cells #[.int .i64 ln, v] 154 (0, 0))
  own : w.ownsRow base 117 7 v (pre ++ cur.toList).length (drsC (pre ++ cur.toList))
  rows : ∀ x ∈ pre, SRow w base x ∧ ∀ q, x.2.ownBlock = some q → q < Bm
  last : ∀ x, cur = some x → SRow w Bm x
  bg : base ≤ g
  bm : base ≤ Bm
  sz : Bm ≤ w.heap.size
theorem owns_lt {w : World} {base : Nat} {e : TypeId} {size : Nat} {v : Value} {n : Nat} {xs : List Value} (h : w.ownsRow base e size v n xs) {q : Nat} (hq : v.ownBlock = some q) : base ≤ q ∧ q < w.heap.size ∧ ∃ cs, w.heap[q]? = some (.cells cs e (0, 0)) := by
  rcases h.2 with ⟨hv, _⟩ | ⟨g, cap, cur, hv, hb, hg, _⟩
  · rw [hv] at hq; cases hq
  · rw [hv] at hq
    have e1 : some g = some q := hq
    have e2 : g = q := Option.some.inj e1
    subst e2
    exact ⟨hb, lt_of_block hg, cur, hg⟩
theorem owns_keep {w w' : World} {base : Nat} {e : TypeId} {size : Nat} {v : Value} {n : Nat} {xs : List Value} (h : w.ownsRow base e size v n xs) (hk : ∀ q, v.ownBlock = some q → w'.heap[q]? = w.heap[q]?) : w'.ownsRow base e size v n xs := by
  obtain ⟨h1, h2⟩ := h
  refine ⟨h1, ?_⟩
  rcases h2 with h2 | ⟨g, cap, cur, hv, hg, hh, r⟩
  · exact .inl h2
  · refine .inr ⟨g, cap, cur, hv, hg, ?_, r⟩
    rw [hk g (by rw [hv]; rfl)]
    exact hh
theorem owns_to {w : World} {base base' : Nat} {e : TypeId} {size : Nat} {v : Value} {n : Nat} {xs : List Value} (h : w.ownsRow base e size v n xs) (hb : base' ≤ base) : w.ownsRow base' e size v n xs := by
  obtain ⟨h1, h2⟩ := h
  refine ⟨h1, ?_⟩
  rcases h2 with h2 | ⟨g, cap, cur, hv, hg, r⟩
  · exact Or.inl h2
  · exact Or.inr ⟨g, cap, cur, hv, Nat.le_trans hb hg, r⟩
theorem RdS.kept {w w' : World} {g base Bm : Nat} {ln : Int} {v : Value} {pre : List (Dr × Value)} {cur : Option (Dr × Value)} (h : RdS w g base Bm ln v pre cur) (hb : Below w.heap.size w w') : RdS w' g base Bm ln v pre cur :=
  ⟨(hb.block g (lt_of_block h.rd)).trans h.rd, owns_keep h.own (fun q hq => hb.block q (owns_lt h.own hq).2.1), fun x hx => ⟨owns_keep (h.rows x hx).1 (fun q hq => hb.block q (owns_lt (h.rows x hx).1 hq).2.1), (h.rows x hx).2⟩, fun x hx => owns_keep (h.last x hx) (fun q hq => hb.block q (owns_lt (h.last x hx) hq).2.1), h.bg, h.bm, Nat.le_trans h.sz hb.size⟩
theorem RdS.vg {w : World} {g base Bm : Nat} {ln : Int} {v : Value} {pre : List (Dr × Value)} {cur : Option (Dr × Value)} (h : RdS w g base Bm ln v pre cur) {q : Nat} (hq : v.ownBlock = some q) : q ≠ g := fun e => by
  obtain ⟨_, _, cs, hc⟩ := owns_lt h.own hq
  rw [e, h.rd] at hc
  injection hc with h1
  injection h1 with _ h2 _
  exact absurd h2 (by decide)
theorem srow_ne {w : World} {base g : Nat} {x : Dr × Value} (h : SRow w base x) {cs : Array Value} {t : TypeId} {fr : Nat × Nat} (hg : w.heap[g]? = some (.cells cs t fr)) (ht : t ≠ 42) {q : Nat} (hq : x.2.ownBlock = some q) : q ≠ g := fun e => by
  obtain ⟨_, _, cs', hc⟩ := owns_lt h hq
  rw [e, hg] at hc
  injection hc with h1
  injection h1 with _ h2 _
  exact ht h2
/-- words by strings.Split -/
theorem splitD (ws : List (List UInt8)) (n : Nat) (w : World) (hn : ws.length = n) (h0 : 0 < n) (hT : TxT w) (h : ∀ y ∈ ws, WordOk y) (hs : (Lib.join ws [32]).length ≤ 100000) :
    Calls Tryz.prog 152 #[.string (bA (Lib.join ws [32])), .string ⟨#[32]⟩] w fun e w' => e = .returned (.slice (some ⟨w.heap.size, 0, none⟩) n n) ∧ w' = w.alloc (.cells ((ws.map bA).map Value.string).toArray 9) := by
  obtain ⟨m, hm⟩ := hT.mx
  obtain ⟨h1, h2⟩ := split_words (ws := ws) (fun e => by rw [e] at hn; simp at hn; omega) (fun y hy => (h y hy).1)
  refine (Tryz.strings_Split (bA (Lib.join ws [32])) ⟨#[32]⟩ m w (by rw [bA_size]; omega) hm (by decide)).mono ?_
  rintro e w' ⟨rfl, rfl⟩
  rw [h2, h1, hn]
  exact ⟨rfl, rfl⟩
theorem words_at (w : World) (ws : List (List UInt8)) : WdAt (w.alloc (.cells ((ws.map bA).map Value.string).toArray 9)) w.heap.size ws := fun j x hx => by
  rw [cell_of_row _ _ j _ _ _ (heap_alloc_new w _)]
  rw [List.getElem?_toArray, List.getElem?_map, List.getElem?_map, hx]
  rfl
theorem containsD (ws : List (List UInt8)) (g n : Nat) (w : World) (hn : ws.length = n) (hN : n ≤ 1000) (h : ∀ y ∈ ws, WordOk y) (hW : WdAt w g ws) :
    Calls Tryz.prog 153 #[.slice (some ⟨g, 0, none⟩) n n, .string ⟨#[]⟩] w fun e w' => e = .returned (.bool false) ∧ w' = w := by
  refine (Tryz.slices_Contains_string g 0 n n (ws.map bA) ⟨#[]⟩ w (by simp; omega) (by omega) (fun j hj => by
    rw [List.length_map] at hj
    have h1 := hW j ws[j] (List.getElem?_eq_getElem hj)
    rw [Nat.zero_add, h1]
    simp [List.getD, hj])).mono ?_
  rintro e w' ⟨rfl, rfl⟩
  rw [List.take_of_length_le (by simp; omega), no_empty h]
  exact ⟨rfl, rfl⟩
end Bw
end Go.Proofs.YtlnkhlifkooohaaGreatDoor
namespace Go.Proofs.YtlnkhlifkooohaaGreatDoor
open Go.ChangeShapes Go.WideShapes Go.ChangeAt Go.RowKit Go.Sort
namespace Bw
open Sm
theorem owns_slice {w : World} {base : Nat} {e : TypeId} {size : Nat} {v : Value} {n : Nat} {xs : List Value} (h : w.ownsRow base e size v n xs) : ∃ a k c, v = .slice a k c := by
  rcases h.2 with ⟨hv, _⟩ | ⟨g, cap, cur, hv, _⟩
  · exact ⟨_, _, _, hv⟩
  · exact ⟨_, _, _, hv⟩
theorem info_dr : (Tryz.prog.info? 117).map (fun i => (i.zero, i.size, i.bytes)) = some (some (.agg #[.int .i64 0, .bool false, .string ⟨#[]⟩, .int .i64 0, .int .i64 0, .slice none 0 0, .string ⟨#[]⟩]), 7, 88) := by kernel_rfl
theorem step_append_runT {P : Program} (w : World) {ops : Array Oper} {o : Oper} {a : Act} {K : Act → World → Prop} {Q : Exit → Act → World → Prop} {E : Prop} (hgd : o.guard = none) (s x : Operand) (t tn : TypeId)
    (ho : o.op = .call { callee := .builtin .append, args := #[s, x], argTypes := #[t, tn] }) (vs vx : Value) (hs : a.eval s = vs) (hx : a.eval x = vx)
    (v' : Value) (w' : World) (hr : (Builtin.append_ #[t, tn] o.type #[vs, vx]).run P w = .ok v' w') (h : K (a.put o.dst v') w') :
    if Region.wanted o (yielded ops a.tmps) = true then Oper.wp P o a w K Q else E := by
  have hw : Region.wanted o (yielded ops a.tmps) = true := by simp [Region.wanted, hgd]
  rw [if_pos hw]
  exact Lib.wp_append_run w s x t tn ho vs vx hs hx v' w' hr h
theorem RdS.lastD {w : World} {g base Bm : Nat} {ln : Int} {v : Value} {pre : List (Dr × Value)} {cur : Option (Dr × Value)} (h : RdS w g base Bm ln v pre cur) : ∀ x ∈ pre ++ cur.toList, SRow w base x := fun x hx => by
  rw [List.mem_append] at hx
  rcases hx with hx | hx
  · exact (h.rows x hx).1
  · cases cur with
    | none => simp at hx
    | some y =>
      have e : x = y := by simpa using hx
      rw [e]
      exact owns_to (h.last y rfl) h.bm
/-- a draft more -/
theorem RdS.msg {w w3 w4 : World} {g base Bm : Nat} {ln : Int} {v : Value} {pre : List (Dr × Value)} {cur : Option (Dr × Value)} (h : RdS w g base Bm ln v pre cur) (hbA : Below w.heap.size w w3) (hgrow : w3.grownBy w4 v.ownBlock) (d : Dr) (hd : d.sigs = []) (v' : Value) (n : Nat) (hn : (pre ++ cur.toList).length = n)
    (ho : w4.ownsRow base 117 7 v' (n + 1) (drsC (pre ++ cur.toList) ++ drCl (d, .slice none 0 0))) :
    RdS (w4.setCell ⟨g, 1, none⟩ v') g base (w4.setCell ⟨g, 1, none⟩ v').heap.size ln v' (pre ++ cur.toList) (some (d, .slice none 0 0)) ∧ Below base w (w4.setCell ⟨g, 1, none⟩ v') ∧ w4.heap[g]? = some (.cells #[.int .i64 ln, v] 154 (0, 0)) := by
  have hbase : base ≤ w.heap.size := Nat.le_trans h.bm h.sz
  have hg4 : w4.heap[g]? = some (.cells #[.int .i64 ln, v] 154 (0, 0)) := by
    have h1 := (hbA.block g (lt_of_block h.rd)).trans h.rd
    exact (hgrow.block g (lt_of_block h1) (fun e => h.vg e.symm rfl)).trans h1
  have hkeep : ∀ x ∈ pre ++ cur.toList, SRow (w4.setCell ⟨g, 1, none⟩ v') base x := fun x hx => by
    have h1 := h.lastD x hx
    refine owns_keep h1 (fun q hq => ?_)
    obtain ⟨_, hlt, cs, hcs⟩ := owns_lt h1 hq
    have e1 := hbA.block q hlt
    have hv : some q ≠ v.ownBlock := fun e => by
      obtain ⟨_, _, cs', hcs'⟩ := owns_lt h.own e.symm
      rw [hcs] at hcs'
      injection hcs' with h2
      injection h2 with _ h3 _
      exact absurd h3 (by decide)
    have e2 := hgrow.block q (by have := hbA.size; omega) hv
    have e3 := heap_setCell_other w4 ⟨g, 1, none⟩ q v' (srow_ne h1 h.rd (by decide) hq)
    exact (e3.trans e2).trans e1
  refine ⟨⟨heap_setCell_same w4 g 1 _ _ v' hg4, ?_, fun x hx => ⟨hkeep x hx, fun q hq => ?_⟩, fun x hx => ?_, h.bg, ?_, Nat.le_refl _⟩, ?_, hg4⟩
  · rw [show (pre ++ cur.toList ++ (some (d, Value.slice none 0 0)).toList) = pre ++ cur.toList ++ [(d, .slice none 0 0)] from rfl, drsC_snoc, List.length_append, hn]
    refine owns_keep ho (fun q hq => heap_setCell_other w4 ⟨g, 1, none⟩ q v' (fun e => ?_))
    obtain ⟨_, _, cs, hcs⟩ := owns_lt ho hq
    rw [show q = g from e, hg4] at hcs
    injection hcs with h2
    injection h2 with _ h3 _
    exact absurd h3 (by decide)
  · have h1 := (owns_lt (hkeep x hx) hq).2.1
    exact h1
  · cases hx
    unfold SRow
    rw [hd]
    exact ⟨rfl, .inl ⟨rfl, rfl⟩⟩
  · have h1 := hbA.size
    have h2 := hgrow.size
    have h3 : (w4.setCell ⟨g, 1, none⟩ v').heap.size = w4.heap.size := by simp
    omega
  · have hB : Below base w w3 := ⟨hbA.os, hbA.tape, hbA.output, hbA.size, fun k hk => hbA.block k (by omega)⟩
    exact (Below.grown hB hgrow (by have := hbA.size; omega) (fun q hq => (owns_lt h.own hq).1)).setCell (p := ⟨g, 1, none⟩) h.bg v'
/-- what stands while the drawn region of a message's line runs -/
structure LnI (d : Dr) (D : Array Value) (g base : Nat) (ln : Int) (v : Value) (pre : List (Dr × Value)) (cur : Option (Dr × Value)) (w W1 W : World) (b4 b7 b8 b9 b10 b11 b12 : Bool) (v29 v32 v33 v34 v35 v36 : Value) (g8 : Nat) : Prop where
  l4 : b4 = true → v29 = v
  c7 : b7 = true → v32 = .agg D
  s8 : b8 = true → v33 = .slice (some ⟨g8, 0, none⟩) 1 1
  h8 : b8 = true → b9 = false → W.heap[g8]? = some (.cells D 117 (0, 0))
  bel : b9 = false → Below W1.heap.size W1 W
  p9 : b9 = true → b12 = false → (∃ a k c, v34 = .slice a k c) ∧ W.heap[g]? = some (.cells #[.int .i64 ln, v] 154 (0, 0)) ∧ ∃ Bm', RdS (W.setCell ⟨g, 1, none⟩ v34) g base Bm' ln v34 (pre ++ cur.toList) (some (d, .slice none 0 0)) ∧ Below base w (W.setCell ⟨g, 1, none⟩ v34)
  f12 : b12 = true → ∃ v' Bm', RdS W g base Bm' ln v' (pre ++ cur.toList) (some (d, .slice none 0 0)) ∧ Below base w W
  o8 : b8 = true → b7 = true
  o9 : b9 = true → b4 = true ∧ b7 = true ∧ b8 = true
  o12 : b12 = true → b9 = true
  n10 : b10 = true → v35 = .pointer (some ⟨g, 0, none⟩)
  n11 : b11 = true → v36 = .pointer (some ⟨g, 1, none⟩)
set_option maxHeartbeats 16000000 in
set_option maxRecDepth 100000 in
theorem readLine_msg (m : Msg) (g base Bm : Nat) (ln : Int) (v : Value) (pre : List (Dr × Value)) (cur : Option (Dr × Value)) (w : World) (hS : RdS w g base Bm ln v pre cur) (hB : MB m) (hT : TxT w) (hN : (pre ++ cur.toList).length ≤ 1000) :
    Calls Tryz.prog 114 #[.pointer (some ⟨g, 0, none⟩), .string (bA (Lib.join (wordsM m) [32]))] w fun e w' => e = .returned (.tuple #[]) ∧ ∃ v' Bm', Hid (RdS w' g base Bm' ln v' (pre ++ cur.toList) (some (⟨m.id, m.lo, m.nm, m.size, bA (chL m), []⟩, .slice none 0 0))) ∧ Hid (Below base w w') := by
  obtain ⟨i0, hi, hz0, hz1, hz2⟩ := info_parts info_dr
  obtain ⟨n, hn⟩ : ∃ n, (pre ++ cur.toList).length = n := ⟨_, rfl⟩
  rw [hn] at hN
  have HSP := Hid.mk (splitD (wordsM m) 5 w rfl (by omega) hT (wordsM_ok hB) (by have := wordsM_len hB; omega))
  have HWD := Hid.mk (words_at w (wordsM m))
  have HB1 : Hid (Below w.heap.size w (w.alloc (.cells (((wordsM m).map bA).map Value.string).toArray 9))) := Hid.mk (awB1 w _)
  have HCT := Hid.mk (fun W (h : WdAt W w.heap.size (wordsM m)) => containsD (wordsM m) w.heap.size 5 W rfl (by omega) (wordsM_ok hB) h)
  have HND := Hid.mk (fun W => need_ok (.pointer (some ⟨g, 0, none⟩)) W)
  have HRM := Hid.mk (fun W (h : Below w.heap.size w W) (hw : WdAt W w.heap.size (wordsM m)) => readMessage_ok (.pointer (some ⟨g, 0, none⟩)) m w.heap.size W hB (hT.kept h) hw)
  have HX0 : Hid (∀ W, WdAt W w.heap.size (wordsM m) → W.cell? ⟨w.heap.size, 0, none⟩ = some (.string ⟨#[109, 101, 115, 115, 97, 103, 101]⟩)) := Hid.mk (fun W h => h 0 _ rfl)
  obtain ⟨W1, hW1⟩ : ∃ W1, W1 = w.alloc (.cells (((wordsM m).map bA).map Value.string).toArray 9) := ⟨_, rfl⟩
  rw [← hW1] at HSP HWD HB1
  have HW1 := Hid.mk hW1
  have HWK : Hid (∀ W, Below W1.heap.size W1 W → WdAt W w.heap.size (wordsM m)) := Hid.mk (fun W h => HWD.out.kept h)
  have HS1 := Hid.mk (hS.kept HB1.out)
  have HSW := Hid.mk hS
  have HNn := Hid.mk hn
  clear hB hT hS hn hW1
  generalize bA (Lib.join (wordsM m) [32]) = XJ at *
  generalize bA (chL m) = XC at *
  generalize wordsM m = WS at *
  obtain ⟨id, lo, nm, size, ch, sigs⟩ := m
  simp only at HRM ⊢
  go_enter Tryz.func114, Tryz.ntmps114
  go_wp2_with fail
  refine HSP.out.mono ?_
  rintro e w1 ⟨rfl, hw1⟩
  rw [hw1]
  clear hw1 w1 HSP
  go_wp2_with fail
  refine (HCT.out _ HWD.out).mono ?_
  rintro e w1 ⟨rfl, hw1⟩
  rw [hw1]
  clear hw1 w1
  go_wp2_with fail
  refine (HND.out _).mono ?_
  rintro e w1 ⟨rfl, hw1⟩
  rw [hw1]
  clear hw1 w1
  have x0 := HX0.out _ HWD.out
  go_wp2_with fail
  refine (HND.out _).mono ?_
  rintro e w1 ⟨rfl, hw1⟩
  rw [hw1]
  clear hw1 w1 x0
  have HEM : Hid (∀ W, Below W1.heap.size W1 W → W.heap[g]? = some (.cells #[.int .i64 ln, v] 154 (0, 0))) := Hid.mk (fun W h => (HS1.out.kept h).rd)
  have HRM1 := Hid.mk (fun W (h : Below W1.heap.size W1 W) => HRM.out W (bl2 HB1.out h) (HWK.out _ h))
  have HAPP : Hid (∀ W gg, Below W1.heap.size W1 W → W.heap[gg]? = some (.cells #[.int .i64 id, .bool lo, .string nm, .int .i64 size, .int .i64 0, .slice none 0 0, .string XC] 117 (0, 0)) → ∃ a k c W', (Builtin.append_ #[113, 113] 113 #[v, .slice (some ⟨gg, 0, none⟩) 1 1]).run Tryz.prog W = .ok (.slice a k c) W' ∧ W'.heap[g]? = some (.cells #[.int .i64 ln, v] 154 (0, 0)) ∧ ∃ Bm', RdS (W'.setCell ⟨g, 1, none⟩ (.slice a k c)) g base Bm' ln (.slice a k c) (pre ++ cur.toList) (some (⟨id, lo, nm, size, XC, []⟩, .slice none 0 0)) ∧ Below base w (W'.setCell ⟨g, 1, none⟩ (.slice a k c))) := Hid.mk (fun W gg hb hgg => by
    have hbw := bl2 HB1.out hb
    obtain ⟨v', w4, hr4, ho4, hg4, -⟩ := run_append_own (P := Tryz.prog) W base 113 113 117 i0 _ 7 88 Tryz.underlying113 hi hz0 hz1 hz2 rfl (by decide) v _ _ (HSW.out.kept hbw).own ⟨gg, 0, none⟩ 1 1 [.int .i64 id, .bool lo, .string nm, .int .i64 size, .int .i64 0, .slice none 0 0, .string XC] rfl (World.news_of_block hgg) (by intro u hu; simp at hu; rcases hu with rfl | rfl | rfl | rfl | rfl | rfl | rfl <;> rfl) (by rw [HNn.out]; unfold maxLen; omega) (by rw [HNn.out]; omega) (by have h1 := HSW.out.bm; have h2 := HSW.out.sz; have h3 := hbw.size; omega)
    rw [HNn.out] at ho4
    obtain ⟨va, vn, vc, rfl⟩ := owns_slice ho4
    obtain ⟨hRS, hBL, hrd⟩ := RdS.msg HSW.out hbw hg4 ⟨id, lo, nm, size, XC, []⟩ rfl _ n HNn.out ho4
    exact ⟨va, vn, vc, w4, hr4, hrd, _, hRS, hBL⟩)
  clear hi hz0 hz1 hz2
  go_wp2_with fail
  refine wp_region_any (by kernel_rfl) ?_
  refine wpAny_take (i := 0) (v := .pointer (some ⟨g, 0, none⟩)) rfl (by kernel_rfl) (by kernel_rfl) (by kernel_rfl) (fun _ _ _ h => h) (Or.inl ⟨by rfl, fun _ => by rfl⟩) ?_
  simp only [List.getElem_toArray, List.getElem_cons_zero, Act.put, List.setIfInBounds_toArray, List.set_cons_zero, List.set_cons_succ]
  refine wpAny_take (i := 1) (v := .pointer (some ⟨g, 0, none⟩)) rfl (by kernel_rfl) (by kernel_rfl) (by kernel_rfl) (fun _ _ _ h => h) (Or.inl ⟨by rfl, fun _ => by rfl⟩) ?_
  simp only [List.getElem_toArray, List.getElem_cons_zero, List.getElem_cons_succ, Act.put, List.setIfInBounds_toArray, List.set_cons_zero, List.set_cons_succ]
  refine wpAny_take (i := 2) (v := .pointer (some ⟨g, 0, none⟩)) rfl (by kernel_rfl) (by kernel_rfl) (by kernel_rfl) (fun _ _ _ h => h) (Or.inl ⟨by rfl, fun _ => by rfl⟩) ?_
  simp only [List.getElem_toArray, List.getElem_cons_zero, List.getElem_cons_succ, Act.put, List.setIfInBounds_toArray, List.set_cons_zero, List.set_cons_succ]
  refine wpAny_take (i := 3) (v := .pointer (some ⟨g, 1, none⟩)) rfl (by kernel_rfl) (by kernel_rfl) (by kernel_rfl) (fun _ _ _ h => h) (Or.inl ⟨by rfl, fun _ => by rfl⟩) ?_
  simp only [List.getElem_toArray, List.getElem_cons_zero, List.getElem_cons_succ, Act.put, List.setIfInBounds_toArray, List.set_cons_zero, List.set_cons_succ]
  refine wpAny_take (i := 5) (v := .pointer (some ⟨g, 0, none⟩)) rfl (by kernel_rfl) (by kernel_rfl) (by kernel_rfl) (fun _ _ _ h => h) (Or.inl ⟨by rfl, fun _ => by rfl⟩) ?_
  simp only [List.getElem_toArray, List.getElem_cons_zero, List.getElem_cons_succ, Act.put, List.setIfInBounds_toArray, List.set_cons_zero, List.set_cons_succ]
  refine wpAny_take (i := 6) (v := .slice (some ⟨w.heap.size, 0, none⟩) 5 5) rfl (by kernel_rfl) (by kernel_rfl) (by kernel_rfl) (fun _ _ _ h => h) (Or.inl ⟨by rfl, fun _ => by rfl⟩) ?_
  simp only [List.getElem_toArray, List.getElem_cons_zero, List.getElem_cons_succ, Act.put, List.setIfInBounds_toArray, List.set_cons_zero, List.set_cons_succ]
  refine Oi.wpAny_start (fun l a W => ∃ b4 b7 b8 b9 b10 b11 b12 v29 v32 v33 v34 v35 v36 g8, l = #[true, true, true, true, b4, true, true, b7, b8, b9, b10, b11, b12] ∧ a = ⟨#[.pointer (some ⟨g, 0, none⟩), .string XJ, undef, undef, .slice (some ⟨w.heap.size, 0, none⟩) 5 5, undef, .string XJ, .slice (some ⟨w.heap.size, 0, none⟩) 5 5, .pointer (some ⟨g, 0, none⟩), .slice (some ⟨w.heap.size, 0, none⟩) 5 5, .bool false, .bool true, .tuple #[], .slice (some ⟨w.heap.size, 0, none⟩) 5 5, .pointer (some ⟨w.heap.size, 0, none⟩), .string ⟨#[109, 101, 115, 115, 97, 103, 101]⟩, undef, undef, .bool true, .bool true, .pointer (some ⟨g, 0, none⟩), .slice (some ⟨w.heap.size, 0, none⟩) 5 5, .int .i64 5, .bool true, .tuple #[], .pointer (some ⟨g, 0, none⟩), .pointer (some ⟨g, 0, none⟩), .pointer (some ⟨g, 0, none⟩), .pointer (some ⟨g, 1, none⟩), v29, .pointer (some ⟨g, 0, none⟩), .slice (some ⟨w.heap.size, 0, none⟩) 5 5, v32, v33, v34, v35, v36, undef, undef, undef, undef, undef, undef, undef, undef, undef, undef, undef, undef, undef, undef, undef, undef, undef, undef, undef, undef, undef, undef, undef, undef, undef, undef, undef, undef, undef, undef, undef, undef, undef, undef, undef, undef, undef, undef, undef, undef], []⟩ ∧ LnI ⟨id, lo, nm, size, XC, []⟩ #[.int .i64 id, .bool lo, .string nm, .int .i64 size, .int .i64 0, .slice none 0 0, .string XC] g base ln v pre cur w W1 W b4 b7 b8 b9 b10 b11 b12 v29 v32 v33 v34 v35 v36 g8) #[true, true, true, true, false, true, true, false, false, false, false, false, false] rfl (by decide) ⟨false, false, false, false, false, false, false, undef, undef, undef, undef, undef, undef, 0, rfl, rfl, ?_⟩ ?_ ?_
  · exact ⟨fun e => Bool.noConfusion e, fun e => Bool.noConfusion e, fun e => Bool.noConfusion e, fun e => Bool.noConfusion e, fun _ => ⟨rfl, rfl, rfl, Nat.le_refl _, fun _ _ => rfl⟩, fun e => Bool.noConfusion e, fun e => Bool.noConfusion e, fun e => Bool.noConfusion e, fun e => Bool.noConfusion e, fun e => Bool.noConfusion e, fun e => Bool.noConfusion e, fun e => Bool.noConfusion e⟩
  rotate_left
  · rintro l a W i o ⟨b4, b7, b8, b9, b10, b11, b12, v29, v32, v33, v34, v35, v36, g8, rfl, rfl, hI⟩ h0 ho hall K hK
    have hi : i < 13 := (Array.getElem?_eq_some_iff.1 ho).1
    have hii : i = 0 ∨ i = 1 ∨ i = 2 ∨ i = 3 ∨ i = 4 ∨ i = 5 ∨ i = 6 ∨ i = 7 ∨ i = 8 ∨ i = 9 ∨ i = 10 ∨ i = 11 ∨ i = 12 := by omega
    clear hi
    rcases hii with rfl | rfl | rfl | rfl | rfl | rfl | rfl | rfl | rfl | rfl | rfl | rfl | rfl
    · exact Bool.noConfusion h0
    · exact Bool.noConfusion h0
    · exact Bool.noConfusion h0
    · exact Bool.noConfusion h0
    · simp only [List.getElem?_toArray, List.getElem?_cons_zero, List.getElem?_cons_succ, Option.some.injEq] at ho
      subst ho
      have e9 : b9 = false := by cases hb : b9 with | false => rfl | true => (have h9 := (hI.o9 hb).1; have h8 : b4 = false := h0; rw [h8] at h9; cases h9)
      have hg := HEM.out W (hI.bel e9)
      have c1 := cell_of_row _ _ 1 _ _ _ hg
      simp only [List.getElem?_toArray, List.getElem?_cons_zero, List.getElem?_cons_succ] at c1
      have HN : Hid (LnI ⟨id, lo, nm, size, XC, []⟩ #[.int .i64 id, .bool lo, .string nm, .int .i64 size, .int .i64 0, .slice none 0 0, .string XC] g base ln v pre cur w W1 W true b7 b8 b9 b10 b11 b12 v v32 v33 v34 v35 v36 g8) := Hid.mk ⟨fun _ => rfl, hI.c7, hI.s8, hI.h8, hI.bel, hI.p9, hI.f12, hI.o8, fun e => ⟨rfl, (hI.o9 e).2⟩, hI.o12, hI.n10, hI.n11⟩
      clear hall h0 hI e9 hg
      go_simp
      exact hK.out _ _ ⟨_, _, _, _, _, _, _, _, _, _, _, _, _, _, rfl, rfl, HN.out⟩
    · exact Bool.noConfusion h0
    · exact Bool.noConfusion h0
    · simp only [List.getElem?_toArray, List.getElem?_cons_zero, List.getElem?_cons_succ, Option.some.injEq] at ho
      subst ho
      have e9 : b9 = false := by cases hb : b9 with | false => rfl | true => (have h9 := (hI.o9 hb).2.1; have h8 : b7 = false := h0; rw [h8] at h9; cases h9)
      have e8 : b8 = false := by cases hb : b8 with | false => rfl | true => (have h9 : b7 = true := hI.o8 hb; have h8 : b7 = false := h0; rw [h8] at h9; cases h9)
      subst e9
      have HN : Hid (∀ w', Below W.heap.size W w' → LnI ⟨id, lo, nm, size, XC, []⟩ #[.int .i64 id, .bool lo, .string nm, .int .i64 size, .int .i64 0, .slice none 0 0, .string XC] g base ln v pre cur w W1 w' b4 true b8 false b10 b11 b12 v29 (.agg #[.int .i64 id, .bool lo, .string nm, .int .i64 size, .int .i64 0, .slice none 0 0, .string XC]) v33 v34 v35 v36 g8) := Hid.mk (fun w' hb => ⟨hI.l4, fun _ => rfl, hI.s8, (fun e => by rw [e8] at e; cases e), fun _ => bl2 (hI.bel rfl) hb, fun e => Bool.noConfusion e, fun e => absurd (hI.o12 e) (by simp), fun _ => rfl, fun e => Bool.noConfusion e, hI.o12, hI.n10, hI.n11⟩)
      have HC := Hid.mk (HRM1.out W (hI.bel rfl))
      clear hall h0 hI e8
      go_simp
      go_wp2_with fail
      with_reducible refine HC.out.mono ?_
      rintro e W3 ⟨rfl, hb3⟩
      have HN3 := Hid.mk (HN.out W3 hb3)
      clear hb3 HN HC
      go_wp2_with fail
      exact hK.out _ _ ⟨_, _, _, _, _, _, _, _, _, _, _, _, _, _, rfl, rfl, HN3.out⟩
    · simp only [List.getElem?_toArray, List.getElem?_cons_zero, List.getElem?_cons_succ, Option.some.injEq] at ho
      subst ho
      have e9 : b9 = false := by cases hb : b9 with | false => rfl | true => (have h9 := (hI.o9 hb).2.2; have h8 : b8 = false := h0; rw [h8] at h9; cases h9)
      have e7 : b7 = true := hall ⟨7, .data⟩ (by simp) rfl
      have hv := hI.c7 e7
      subst hv
      subst e9
      have HN : Hid (LnI ⟨id, lo, nm, size, XC, []⟩ #[.int .i64 id, .bool lo, .string nm, .int .i64 size, .int .i64 0, .slice none 0 0, .string XC] g base ln v pre cur w W1 (W.alloc (.cells #[.int .i64 id, .bool lo, .string nm, .int .i64 size, .int .i64 0, .slice none 0 0, .string XC] 117)) b4 b7 true false b10 b11 b12 v29 (.agg #[.int .i64 id, .bool lo, .string nm, .int .i64 size, .int .i64 0, .slice none 0 0, .string XC]) (.slice (some ⟨W.heap.size, 0, none⟩) 1 1) v34 v35 v36 W.heap.size) := Hid.mk ⟨hI.l4, hI.c7, fun _ => rfl, fun _ _ => heap_alloc_new W _, fun _ => bl2 (hI.bel rfl) (awB1 W _), fun e => Bool.noConfusion e, fun e => absurd (hI.o12 e) (by simp), fun _ => e7, fun e => Bool.noConfusion e, hI.o12, hI.n10, hI.n11⟩
      clear hall h0 hI e7
      go_simp
      exact hK.out _ _ ⟨_, _, _, _, _, _, _, _, _, _, _, _, _, _, rfl, rfl, HN.out⟩
    · simp only [List.getElem?_toArray, List.getElem?_cons_zero, List.getElem?_cons_succ, Option.some.injEq] at ho
      subst ho
      have e4 : b4 = true := hall ⟨4, .data⟩ (by simp) rfl
      have e8 : b8 = true := hall ⟨8, .data⟩ (by simp) rfl
      have e7 : b7 = true := hall ⟨7, .chain⟩ (by simp) rfl
      have e9 : b9 = false := h0
      have e12 : b12 = false := by cases hb : b12 with | false => rfl | true => (have h9 := hI.o12 hb; rw [e9] at h9; cases h9)
      have hv1 := hI.l4 e4
      have hv2 := hI.s8 e8
      obtain ⟨xa, xk, xc, w8, hr8, hg8, Bm8, hR8, hL8⟩ := HAPP.out W g8 (hI.bel e9) (hI.h8 e8 e9)
      subst hv1 hv2
      refine step_append_runT W rfl (.tmp 29) (.tmp 33) 113 113 rfl _ _ rfl rfl _ _ hr8 ?_
      refine hK.out _ _ ⟨_, _, _, _, _, _, _, _, _, _, _, _, _, g8, rfl, rfl, ?_⟩
      exact ⟨fun _ => rfl, hI.c7, fun _ => rfl, fun _ e => Bool.noConfusion e, fun e => Bool.noConfusion e, fun _ _ => ⟨⟨xa, xk, xc, rfl⟩, hg8, Bm8, hR8, hL8⟩, (fun e => by rw [e12] at e; cases e), hI.o8, fun _ => ⟨e4, e7, e8⟩, fun _ => rfl, hI.n10, hI.n11⟩
    · simp only [List.getElem?_toArray, List.getElem?_cons_zero, List.getElem?_cons_succ, Option.some.injEq] at ho
      subst ho
      have HN : Hid (LnI ⟨id, lo, nm, size, XC, []⟩ #[.int .i64 id, .bool lo, .string nm, .int .i64 size, .int .i64 0, .slice none 0 0, .string XC] g base ln v pre cur w W1 W b4 b7 b8 b9 true b11 b12 v29 v32 v33 v34 (.pointer (some ⟨g, 0, none⟩)) v36 g8) := Hid.mk ⟨hI.l4, hI.c7, hI.s8, hI.h8, hI.bel, hI.p9, hI.f12, hI.o8, hI.o9, hI.o12, fun _ => rfl, hI.n11⟩
      clear hall h0 hI
      go_simp
      exact hK.out _ _ ⟨_, _, _, _, _, _, _, _, _, _, _, _, _, _, rfl, rfl, HN.out⟩
    · simp only [List.getElem?_toArray, List.getElem?_cons_zero, List.getElem?_cons_succ, Option.some.injEq] at ho
      subst ho
      have e10 : b10 = true := hall ⟨10, .data⟩ (by simp) rfl
      have hv := hI.n10 e10
      subst hv
      have HN : Hid (LnI ⟨id, lo, nm, size, XC, []⟩ #[.int .i64 id, .bool lo, .string nm, .int .i64 size, .int .i64 0, .slice none 0 0, .string XC] g base ln v pre cur w W1 W b4 b7 b8 b9 b10 true b12 v29 v32 v33 v34 (.pointer (some ⟨g, 0, none⟩)) (.pointer (some ⟨g, 1, none⟩)) g8) := Hid.mk ⟨hI.l4, hI.c7, hI.s8, hI.h8, hI.bel, hI.p9, hI.f12, hI.o8, hI.o9, hI.o12, hI.n10, fun _ => rfl⟩
      clear hall h0 hI e10
      go_simp
      exact hK.out _ _ ⟨_, _, _, _, _, _, _, _, _, _, _, _, _, _, rfl, rfl, HN.out⟩
    · simp only [List.getElem?_toArray, List.getElem?_cons_zero, List.getElem?_cons_succ, Option.some.injEq] at ho
      subst ho
      have e11 : b11 = true := hall ⟨11, .data⟩ (by simp) rfl
      have e9 : b9 = true := hall ⟨9, .data⟩ (by simp) rfl
      have e12 : b12 = false := h0
      have hv := hI.n11 e11
      obtain ⟨⟨xa, xk, xc, hv2⟩, hg9, Bm9, hR9, hL9⟩ := hI.p9 e9 e12
      subst hv hv2
      have HN : Hid (LnI ⟨id, lo, nm, size, XC, []⟩ #[.int .i64 id, .bool lo, .string nm, .int .i64 size, .int .i64 0, .slice none 0 0, .string XC] g base ln v pre cur w W1 (W.setCell ⟨g, 1, none⟩ (.slice xa xk xc)) b4 b7 b8 b9 b10 b11 true v29 v32 v33 (.slice xa xk xc) v35 (.pointer (some ⟨g, 1, none⟩)) g8) := Hid.mk ⟨hI.l4, hI.c7, hI.s8, (fun _ e => by rw [e9] at e; cases e), (fun e => by rw [e9] at e; cases e), fun _ e => Bool.noConfusion e, fun _ => ⟨_, Bm9, hR9, hL9⟩, hI.o8, hI.o9, fun _ => e9, hI.n10, hI.n11⟩
      have c1 := cell_of_row _ _ 1 _ _ _ hg9
      have f1 := frozen_of_row _ _ 1 _ _ hg9
      simp only [List.getElem?_toArray, List.getElem?_cons_zero, List.getElem?_cons_succ] at c1
      clear hall h0 hI e11 e9 e12 hg9 hR9 hL9
      go_simp
      exact hK.out _ _ ⟨_, _, _, _, _, _, _, _, _, _, _, _, _, _, rfl, rfl, HN.out⟩
  rintro l a W ⟨b4, b7, b8, b9, b10, b11, b12, v29, v32, v33, v34, v35, v36, g8, rfl, rfl, hI⟩ hr
  cases b4 with
  | false => exact (Oi.ready_nil (i := 4) hr rfl rfl (by intro e he _; simp at he; try (first | (rcases he with rfl <;> rfl) | (rcases he with rfl | rfl <;> rfl) | (subst he; rfl)))).elim
  | true =>
  cases b7 with
  | false => exact (Oi.ready_nil (i := 7) hr rfl rfl (by intro e he _; simp at he; try (first | (rcases he with rfl | rfl <;> rfl) | (rcases he with rfl | rfl | rfl <;> rfl) | (subst he; rfl)))).elim
  | true =>
  cases b8 with
  | false => exact (Oi.ready_nil (i := 8) hr rfl rfl (by intro e he _; simp at he; try (first | (rcases he with rfl <;> rfl) | (rcases he with rfl | rfl <;> rfl) | (subst he; rfl)))).elim
  | true =>
  cases b9 with
  | false => exact (Oi.ready_nil (i := 9) hr rfl rfl (by intro e he _; simp at he; try (first | (rcases he with rfl | rfl | rfl <;> rfl) | (rcases he with rfl | rfl | rfl | rfl <;> rfl) | (subst he; rfl)))).elim
  | true =>
  cases b10 with
  | false => exact (Oi.ready_nil (i := 10) hr rfl rfl (by intro e he _; simp at he; try (first | (rcases he with rfl | rfl | rfl | rfl | rfl | rfl | rfl | rfl | rfl | rfl | rfl <;> rfl) | (rcases he with rfl | rfl | rfl | rfl | rfl | rfl | rfl | rfl | rfl | rfl | rfl | rfl <;> rfl) | (subst he; rfl)))).elim
  | true =>
  cases b11 with
  | false => exact (Oi.ready_nil (i := 11) hr rfl rfl (by intro e he _; simp at he; try (first | (rcases he with rfl | rfl | rfl | rfl | rfl | rfl | rfl | rfl | rfl | rfl | rfl <;> rfl) | (rcases he with rfl | rfl | rfl | rfl | rfl | rfl | rfl | rfl | rfl | rfl | rfl | rfl <;> rfl) | (subst he; rfl)))).elim
  | true =>
  cases b12 with
  | false => exact (Oi.ready_nil (i := 12) hr rfl rfl (by intro e he _; simp at he; try (first | (rcases he with rfl | rfl | rfl | rfl | rfl | rfl | rfl | rfl | rfl | rfl | rfl | rfl | rfl <;> rfl) | (rcases he with rfl | rfl | rfl | rfl | rfl | rfl | rfl | rfl | rfl | rfl | rfl | rfl | rfl | rfl <;> rfl) | (subst he; rfl)))).elim
  | true =>
  obtain ⟨v', Bm', hR, hL⟩ := hI.f12 rfl
  have HRS := Hid.mk hR
  have HBL := Hid.mk hL
  clear hI hr hR hL
  go_wp2_with fail
  go_end0
  exact ⟨rfl, _, _, HRS, HBL⟩
end Bw
end Go.Proofs.YtlnkhlifkooohaaGreatDoor
namespace Go.Proofs.YtlnkhlifkooohaaGreatDoor
open Go.ChangeShapes Go.WideShapes Go.ChangeAt Go.RowKit Go.Sort
namespace Bw
open Sm
theorem ty_ne {w : World} {a b : Nat} {c1 c2 : Array Value} {t1 t2 : TypeId} {f1 f2 : Nat × Nat} (h1 : w.heap[a]? = some (.cells c1 t1 f1)) (h2 : w.heap[b]? = some (.cells c2 t2 f2)) (ht : t1 ≠ t2) : a ≠ b := fun e => by
  rw [e, h2] at h1
  injection h1 with h3
  injection h3 with _ h4 _
  exact ht h4.symm
/-- where the last draft lies -/
theorem RdS.place {w : World} {g base Bm : Nat} {ln : Int} {v : Value} {pre : List (Dr × Value)} {d : Dr} {u : Value} (h : RdS w g base Bm ln v pre (some (d, u))) : ∃ gv cap cs, v = .slice (some ⟨gv, 0, none⟩) (pre.length + 1) cap ∧ base ≤ gv ∧ w.heap[gv]? = some (.cells cs 117 (0, 0)) ∧ pre.length + 1 ≤ cap ∧ cap ≤ maxLen ∧ cs.size = cap * 7 ∧ cs.toList.take ((pre.length + 1) * 7) = drsC (pre ++ [(d, u)]) := by
  have hn : (pre ++ (some (d, u)).toList).length = pre.length + 1 := by simp
  obtain ⟨h1, h2⟩ := h.own
  rw [hn] at h2
  rcases h2 with ⟨_, h0⟩ | ⟨gv, cap, cs, hv, hb, hg, hc, hm, hs, ht⟩
  · omega
  · exact ⟨gv, cap, cs, hv, hb, hg, hc, hm, hs, ht⟩
theorem drs_at (pre : List (Dr × Value)) (d : Dr) (u : Value) : (drsC (pre ++ [(d, u)]))[pre.length * 7 + 5]? = some u := by
  rw [drsC_snoc, List.getElem?_append_right (by rw [drsC_len]; omega), drsC_len]
  rw [show pre.length * 7 + 5 - pre.length * 7 = 5 by omega]
  rfl
theorem drs_set (pre : List (Dr × Value)) (d : Dr) (u u' : Value) (l : List Sig) : (drsC (pre ++ [(d, u)])).set (pre.length * 7 + 5) u' = drsC (pre ++ [({ d with sigs := l }, u')]) := by
  rw [drsC_snoc, drsC_snoc, List.set_append_right _ _ (by rw [drsC_len]; omega), drsC_len]
  rw [show pre.length * 7 + 5 - pre.length * 7 = 5 by omega]
  rfl
/-- a signal more in the last draft -/
theorem RdS.sig {w w3 w4 : World} {g base Bm gv cap : Nat} {ln : Int} {pre : List (Dr × Value)} {d : Dr} {u : Value} (h : RdS w g base Bm ln (.slice (some ⟨gv, 0, none⟩) (pre.length + 1) cap) pre (some (d, u))) (hbA : Below w.heap.size w w3) (hgrow : w3.grownBy w4 u.ownBlock) (s : Sig) (u' : Value)
    (ho : w4.ownsRow Bm 42 9 u' (d.sigs.length + 1) (sgsC d.sigs ++ sgCl s)) :
    RdS (w4.setCell ⟨gv, pre.length * 7 + 5, none⟩ u') g base Bm ln (.slice (some ⟨gv, 0, none⟩) (pre.length + 1) cap) pre (some ({ d with sigs := d.sigs ++ [s] }, u')) ∧ Below base w (w4.setCell ⟨gv, pre.length * 7 + 5, none⟩ u') ∧ w4.cell? ⟨gv, pre.length * 7 + 5, none⟩ = some u ∧ w4.frozen? ⟨gv, pre.length * 7 + 5, none⟩ = false := by
  obtain ⟨gv', cap', cs, hv, hbg, hg, hc, hm, hs, ht⟩ := h.place
  have e1 : gv = gv' ∧ cap = cap' := by
    simp only [Value.slice.injEq, Option.some.injEq, Addr.mk.injEq, and_true, true_and] at hv
    exact hv
  obtain ⟨rfl, rfl⟩ := e1
  have hlast := h.last (d, u) rfl
  have hbase : base ≤ w.heap.size := Nat.le_trans h.bm h.sz
  have hu : ∀ k, k < w.heap.size → (∀ cs t fr, w.heap[k]? = some (.cells cs t fr) → t ≠ 42) → w4.heap[k]? = w.heap[k]? := fun k hk hty => by
    have h1 := hbA.block k hk
    refine (hgrow.block k (by have := hbA.size; omega) (fun e => ?_)).trans h1
    obtain ⟨_, _, cs', hcs'⟩ := owns_lt hlast e.symm
    exact hty _ _ _ hcs' rfl
  have hgv4 : w4.heap[gv]? = some (.cells cs 117 (0, 0)) := (hu gv (lt_of_block hg) (fun _ _ _ e => by rw [hg] at e; injection e with e; injection e with _ e _; rw [← e]; decide)).trans hg
  have hg4 : w4.heap[g]? = some (.cells #[.int .i64 ln, .slice (some ⟨gv, 0, none⟩) (pre.length + 1) cap] 154 (0, 0)) := (hu g (lt_of_block h.rd) (fun _ _ _ e => by rw [h.rd] at e; injection e with e; injection e with _ e _; rw [← e]; decide)).trans h.rd
  have hidx : pre.length * 7 + 5 < cs.size := by rw [hs]; omega
  have hcell : cs.toList[pre.length * 7 + 5]? = some u := by
    have h1 := drs_at pre d u
    rw [← ht, List.getElem?_take_of_lt (by omega)] at h1
    exact h1
  have hgne : gv ≠ g := ty_ne hgv4 hg4 (by decide)
  have hset := heap_setCell_same w4 gv (pre.length * 7 + 5) _ _ u' hgv4
  have hsz4 : w.heap.size ≤ w4.heap.size := by have := hbA.size; have := hgrow.size; omega
  refine ⟨⟨?_, ?_, fun x hx => ?_, fun x hx => ?_, h.bg, h.bm, by have := h.sz; simp; omega⟩, ?_, ?_, frozen_of_row _ _ _ _ _ hgv4⟩
  · exact (heap_setCell_other w4 ⟨gv, pre.length * 7 + 5, none⟩ g u' (fun e => hgne e.symm)).trans hg4
  · have hn : (pre ++ (some ({ d with sigs := d.sigs ++ [s] }, u')).toList).length = pre.length + 1 := by simp
    rw [hn]
    refine ⟨by rw [drsC_len, hn], .inr ⟨gv, cap, _, rfl, hbg, hset, hc, hm, by rw [Array.size_setIfInBounds]; exact hs, ?_⟩⟩
    rw [Array.toList_setIfInBounds, List.take_set, ht]
    exact drs_set pre d u u' _
  · obtain ⟨h1, h2⟩ := h.rows x hx
    refine ⟨owns_keep h1 (fun q hq => ?_), h2⟩
    obtain ⟨_, hlt, cs', hcs'⟩ := owns_lt h1 hq
    have e1 := hbA.block q hlt
    have e2 := hgrow.block q (by have := hbA.size; omega) (fun e => by
      have h3 := (owns_lt hlast e.symm).1
      have h4 := h2 q hq
      omega)
    have e3 := heap_setCell_other w4 ⟨gv, pre.length * 7 + 5, none⟩ q u' (ty_ne ((e2.trans e1).trans hcs') hgv4 (by decide))
    exact (e3.trans e2).trans e1
  · cases hx
    unfold SRow
    simp only
    rw [sgsC_append, List.length_append, show sgsC [s] = sgCl s by simp [sgsC]]
    refine owns_keep ho (fun q hq => heap_setCell_other w4 ⟨gv, pre.length * 7 + 5, none⟩ q u' ?_)
    obtain ⟨_, _, cs', hcs'⟩ := owns_lt ho hq
    exact ty_ne hcs' hgv4 (by decide)
  · have hB : Below base w w3 := ⟨hbA.os, hbA.tape, hbA.output, hbA.size, fun k hk => hbA.block k (by omega)⟩
    exact (Below.grown hB hgrow (by have := hbA.size; omega) (fun q hq => Nat.le_trans h.bm (owns_lt hlast hq).1)).setCell (p := ⟨gv, pre.length * 7 + 5, none⟩) hbg u'
  · rw [cell_of_row _ _ _ _ _ _ hgv4, ← Array.getElem?_toList]
    exact hcell
end Bw
end Go.Proofs.YtlnkhlifkooohaaGreatDoor
namespace Go.Proofs.YtlnkhlifkooohaaGreatDoor
open Go.ChangeShapes Go.WideShapes Go.ChangeAt Go.RowKit Go.Sort
namespace Bw
open Sm
/-- what stands while the drawn region of a signal's line runs -/
structure LsI (S : Array Value) (Fn : World → Prop) (u : Value) (gv k7 g : Nat) (W1 W : World) (b5 b8 b9 b10 b11 b12 b13 b14 : Bool) (v68 v71 v72 v73 v74 v75 v76 : Value) (g9 : Nat) : Prop where
  l5 : b5 = true → v68 = u
  c8 : b8 = true → v71 = .agg S
  s9 : b9 = true → v72 = .slice (some ⟨g9, 0, none⟩) 1 1
  h9 : b9 = true → b10 = false → W.heap[g9]? = some (.cells S 42 (0, 0))
  bel : b10 = false → Below W1.heap.size W1 W
  p10 : b10 = true → b14 = false → (∃ a k c, v73 = .slice a k c) ∧ W.cell? ⟨gv, k7 + 5, none⟩ = some u ∧ W.frozen? ⟨gv, k7 + 5, none⟩ = false ∧ Fn (W.setCell ⟨gv, k7 + 5, none⟩ v73)
  f14 : b14 = true → Fn W
  o9 : b9 = true → b8 = true
  o10 : b10 = true → b5 = true ∧ b8 = true ∧ b9 = true
  o14 : b14 = true → b10 = true
  n11 : b11 = true → v74 = .pointer (some ⟨gv, k7, none⟩)
  n12 : b12 = true → v75 = .pointer (some ⟨gv, k7, none⟩)
  n13 : b13 = true → v76 = .pointer (some ⟨gv, k7 + 5, none⟩)
set_option maxHeartbeats 16000000 in
set_option maxRecDepth 100000 in
theorem readLine_sig (s : Sig) (g base Bm gv cap : Nat) (ln : Int) (pre : List (Dr × Value)) (d : Dr) (u : Value) (w : World) (hS : RdS w g base Bm ln (.slice (some ⟨gv, 0, none⟩) (pre.length + 1) cap) pre (some (d, u))) (hB : SB s) (hT : TxT w) (hN : pre.length ≤ 1000) (hL : d.sigs.length ≤ 1000) :
    Calls Tryz.prog 114 #[.pointer (some ⟨g, 0, none⟩), .string (bA (Lib.join (wordsS s) [32]))] w fun e w' => e = .returned (.tuple #[]) ∧ ∃ u', Hid (RdS w' g base Bm ln (.slice (some ⟨gv, 0, none⟩) (pre.length + 1) cap) pre (some ({ d with sigs := d.sigs ++ [s] }, u'))) ∧ Hid (Below base w w') := by
  obtain ⟨i0, hi, hz0, hz1, hz2⟩ := info_parts info_sg
  have HSP := Hid.mk (splitD (wordsS s) 6 w rfl (by omega) hT (wordsS_ok hB) (by have := wordsS_len hB; omega))
  have HWD := Hid.mk (words_at w (wordsS s))
  have HB1 : Hid (Below w.heap.size w (w.alloc (.cells (((wordsS s).map bA).map Value.string).toArray 9))) := Hid.mk (awB1 w _)
  have HCT := Hid.mk (fun W (h : WdAt W w.heap.size (wordsS s)) => containsD (wordsS s) w.heap.size 6 W rfl (by omega) (wordsS_ok hB) h)
  have HND := Hid.mk (fun W => need_ok (.pointer (some ⟨g, 0, none⟩)) W)
  have HRM := Hid.mk (fun W (h : Below w.heap.size w W) (hw : WdAt W w.heap.size (wordsS s)) => readSignal_ok (.pointer (some ⟨g, 0, none⟩)) s w.heap.size W hB (hT.kept h) hw)
  have HX0 : Hid (∀ W, WdAt W w.heap.size (wordsS s) → W.cell? ⟨w.heap.size, 0, none⟩ = some (.string ⟨#[115, 105, 103, 110, 97, 108]⟩)) := Hid.mk (fun W h => h 0 _ rfl)
  obtain ⟨W1, hW1⟩ : ∃ W1, W1 = w.alloc (.cells (((wordsS s).map bA).map Value.string).toArray 9) := ⟨_, rfl⟩
  rw [← hW1] at HSP HWD HB1
  have HW1 := Hid.mk hW1
  have HWK : Hid (∀ W, Below W1.heap.size W1 W → WdAt W w.heap.size (wordsS s)) := Hid.mk (fun W h => HWD.out.kept h)
  obtain ⟨ua, un, uc, hus⟩ := owns_slice (hS.last (d, u) rfl)
  simp only at hus
  subst hus
  have HAPP : Hid (∀ W gg, Below W1.heap.size W1 W → W.heap[gg]? = some (.cells (sgCl s).toArray 42 (0, 0)) → ∃ a k c W', (Builtin.append_ #[22, 22] 22 #[.slice ua un uc, .slice (some ⟨gg, 0, none⟩) 1 1]).run Tryz.prog W = .ok (.slice a k c) W' ∧ RdS (W'.setCell ⟨gv, pre.length * 7 + 5, none⟩ (.slice a k c)) g base Bm ln (.slice (some ⟨gv, 0, none⟩) (pre.length + 1) cap) pre (some ({ d with sigs := d.sigs ++ [s] }, .slice a k c)) ∧ Below base w (W'.setCell ⟨gv, pre.length * 7 + 5, none⟩ (.slice a k c)) ∧ W'.cell? ⟨gv, pre.length * 7 + 5, none⟩ = some (.slice ua un uc) ∧ W'.frozen? ⟨gv, pre.length * 7 + 5, none⟩ = false) := Hid.mk (fun W gg hb hgg => by
    have hbw := bl2 HB1.out hb
    have hl := (hS.kept hbw).last (d, .slice ua un uc) rfl
    obtain ⟨v', w4, hr4, ho4, hg4, -⟩ := run_append_own (P := Tryz.prog) W Bm 22 22 42 i0 _ 9 72 Tryz.underlying22 hi hz0 hz1 hz2 rfl (by decide) _ _ _ hl ⟨gg, 0, none⟩ 1 1 (sgCl s) rfl (World.news_of_block hgg) (fun q hq => sgsC_one [s] q (by simpa [sgsC] using hq)) (by unfold maxLen; simp only; omega) (by simp only; omega) (by have h1 := hS.sz; have h3 := hbw.size; omega)
    obtain ⟨va, vn, vc, rfl⟩ := owns_slice ho4
    obtain ⟨hRS, hBL, hc, hf⟩ := RdS.sig hS hbw hg4 s _ ho4
    exact ⟨va, vn, vc, w4, hr4, hRS, hBL, hc, hf⟩)
  have HU : Hid (∀ W, Below W1.heap.size W1 W → W.cell? ⟨g, 1, none⟩ = some (.slice (some ⟨gv, 0, none⟩) (pre.length + 1) cap) ∧ W.cell? ⟨gv, pre.length * 7 + 5, none⟩ = some (.slice ua un uc)) := Hid.mk (fun W h => by
    have hk := hS.kept (bl2 HB1.out h)
    refine ⟨cell_of_row _ _ 1 _ _ _ hk.rd, ?_⟩
    obtain ⟨gv', cap', cs, hv, hbg, hg, hc, hm, hs, ht⟩ := hk.place
    have e1 : gv = gv' := by
      simp only [Value.slice.injEq, Option.some.injEq, Addr.mk.injEq, and_true, true_and] at hv
      exact hv.1
    subst e1
    rw [cell_of_row _ _ _ _ _ _ hg, ← Array.getElem?_toList]
    have h1 := drs_at pre d (.slice ua un uc)
    rw [← ht, List.getElem?_take_of_lt (by omega)] at h1
    exact h1)
  have HCAP : Hid (pre.length + 1 ≤ cap) := Hid.mk (by
    obtain ⟨gv', cap', cs, hv, hbg, hg, hc, hm, hs, ht⟩ := hS.place
    simp only [Value.slice.injEq, Option.some.injEq, Addr.mk.injEq, and_true, true_and] at hv
    rw [hv.2]
    exact hc)
  obtain ⟨k, hk⟩ : ∃ k, pre.length = k := ⟨_, rfl⟩
  rw [hk] at hN HAPP HU HCAP
  obtain ⟨N, hNN⟩ : ∃ N, N = k + 1 := ⟨_, rfl⟩
  have HKK := Hid.mk hk
  have HNK := Hid.mk hNN
  rw [← hNN] at HAPP HU HCAP
  have HN0 : Hid ((0 : Int) < (N : Int) ∧ (N : Int) ≤ 1001) := Hid.mk (by omega)
  have HN1 : Hid (((0 : Int) ≤ (k : Int) ∧ (k : Int) < (N : Int)) ∧ (N : Int) - 1 = (k : Int)) := Hid.mk (by omega)
  rw [hk, ← hNN]
  have HFIN : Hid (∀ W a kk c, RdS W g base Bm ln (.slice (some ⟨gv, 0, none⟩) N cap) pre (some ({ d with sigs := d.sigs ++ [s] }, .slice a kk c)) → ∃ u', Hid (RdS W g base Bm ln (.slice (some ⟨gv, 0, none⟩) N cap) pre (some ({ d with sigs := d.sigs ++ [s] }, u')))) := Hid.mk (fun W a kk c h => ⟨_, Hid.mk h⟩)
  clear hB hT hS hk hNN hW1 hi hz0 hz1 hz2 hN hL
  generalize bA (Lib.join (wordsS s) [32]) = XJ at *
  generalize wordsS s = WS at *
  generalize { d with sigs := d.sigs ++ [s] } = D1 at *
  obtain ⟨nm, st, sz, bk, sg, mu, di, ad, ky⟩ := s
  unfold sgV at HRM
  unfold sgCl at HAPP
  simp only at HRM HAPP
  go_enter Tryz.func114, Tryz.ntmps114
  go_wp2_with fail
  refine HSP.out.mono ?_
  rintro e w1 ⟨rfl, hw1⟩
  rw [hw1]
  clear hw1 w1 HSP
  go_wp2_with fail
  refine (HCT.out _ HWD.out).mono ?_
  rintro e w1 ⟨rfl, hw1⟩
  rw [hw1]
  clear hw1 w1
  go_wp2_with fail
  refine (HND.out _).mono ?_
  rintro e w1 ⟨rfl, hw1⟩
  rw [hw1]
  clear hw1 w1
  obtain ⟨X0, hX0⟩ : ∃ X0 : ByteArray, X0 = ⟨#[115, 105, 103, 110, 97, 108]⟩ := ⟨_, rfl⟩
  have x0 := HX0.out _ HWD.out
  rw [← hX0] at x0
  have e0 : (X0.toList == [109, 101, 115, 115, 97, 103, 101]) = false := by rw [hX0, ByteArray.toList_eq]; decide
  have e1 : (X0.toList == [115, 105, 103, 110, 97, 108]) = true := by rw [hX0, ByteArray.toList_eq]; decide
  clear hX0
  have c1 := (HU.out W1 (Below.refl _ _)).1
  obtain ⟨hN0, hN2⟩ := HN0.out
  have hN3 : 0 < N := by omega
  have hN4 : decide (0 < N) = true := by simpa using hN3
  have hN5 : decide ((0 : Int) < (N : Int)) = true := by simpa using hN0
  go_wp2_with fail
  with_reducible refine (HND.out _).mono ?_
  rintro e w1 ⟨rfl, hw1⟩
  rw [hw1]
  clear hw1 w1 x0 e0 e1 hN0 hN2 hN3 hN4 hN5
  obtain ⟨hN1, hNs⟩ := HN1.out
  have hkN : k < N := by omega
  have hNw : wrap64 (k : Int) = (k : Int) := by have h9 := HN0.out; first | (unfold wrap64; omega) | (simp only [wrap64]; omega)
  have c1r := fun d os => cell_kept (below_regrown W1 d os) c1
  go_wp2_with fail
  refine wp_region_quiet_below (by kernel_rfl) (by kernel_rfl) ?_
  repeat (go_big_quiet_step (fail))
  refine wpQuiet_nil ?_
  intro _ hw'
  obtain ⟨⟨dq, osq⟩, hw''⟩ := hw'
  have hbq := below_regrown W1 dq osq
  rw [hw'']
  generalize grow (redrawn W1 dq) osq = W2 at *
  have HB2 := Hid.mk hbq
  clear hw'' hbq c1 c1r hN1 hNs hkN hNw
  go_wp2_with fail
  have HUW : Hid (∀ W, Below W2.heap.size W2 W → W.cell? ⟨gv, k * 7 + 5, none⟩ = some (.slice ua un uc)) := Hid.mk (fun W h => (HU.out W (bl2 HB2.out h)).2)
  have HRM1 := Hid.mk (fun W (h : Below W2.heap.size W2 W) => HRM.out W (bl2 HB1.out (bl2 HB2.out h)) (HWK.out _ (bl2 HB2.out h)))
  have HAP2 := Hid.mk (fun W gg (h : Below W2.heap.size W2 W) hg => HAPP.out W gg (bl2 HB2.out h) hg)
  refine wp_region_any (by kernel_rfl) ?_
  refine wpAny_take (i := 0) (v := .pointer (some ⟨gv, k * 7, none⟩)) rfl (by kernel_rfl) (by kernel_rfl) (by kernel_rfl) (fun _ _ _ h => h) (Or.inl ⟨by rfl, fun _ => by rfl⟩) ?_
  simp only [List.getElem_toArray, List.getElem_cons_zero, Act.put, List.setIfInBounds_toArray, List.set_cons_zero, List.set_cons_succ]
  refine wpAny_take (i := 1) (v := .pointer (some ⟨gv, k * 7, none⟩)) rfl (by kernel_rfl) (by kernel_rfl) (by kernel_rfl) (fun _ _ _ h => h) (Or.inl ⟨by rfl, fun _ => by rfl⟩) ?_
  simp only [List.getElem_toArray, List.getElem_cons_zero, List.getElem_cons_succ, Act.put, List.setIfInBounds_toArray, List.set_cons_zero, List.set_cons_succ]
  refine wpAny_take (i := 2) (v := .pointer (some ⟨gv, k * 7, none⟩)) rfl (by kernel_rfl) (by kernel_rfl) (by kernel_rfl) (fun _ _ _ h => h) (Or.inl ⟨by rfl, fun _ => by rfl⟩) ?_
  simp only [List.getElem_toArray, List.getElem_cons_zero, List.getElem_cons_succ, Act.put, List.setIfInBounds_toArray, List.set_cons_zero, List.set_cons_succ]
  refine wpAny_take (i := 3) (v := .pointer (some ⟨gv, k * 7, none⟩)) rfl (by kernel_rfl) (by kernel_rfl) (by kernel_rfl) (fun _ _ _ h => h) (Or.inl ⟨by rfl, fun _ => by rfl⟩) ?_
  simp only [List.getElem_toArray, List.getElem_cons_zero, List.getElem_cons_succ, Act.put, List.setIfInBounds_toArray, List.set_cons_zero, List.set_cons_succ]
  refine wpAny_take (i := 4) (v := .pointer (some ⟨gv, k * 7 + 5, none⟩)) rfl (by kernel_rfl) (by kernel_rfl) (by kernel_rfl) (fun _ _ _ h => h) (Or.inl ⟨by rfl, fun _ => by rfl⟩) ?_
  simp only [List.getElem_toArray, List.getElem_cons_zero, List.getElem_cons_succ, Act.put, List.setIfInBounds_toArray, List.set_cons_zero, List.set_cons_succ]
  refine wpAny_take (i := 6) (v := .pointer (some ⟨g, 0, none⟩)) rfl (by kernel_rfl) (by kernel_rfl) (by kernel_rfl) (fun _ _ _ h => h) (Or.inl ⟨by rfl, fun _ => by rfl⟩) ?_
  simp only [List.getElem_toArray, List.getElem_cons_zero, List.getElem_cons_succ, Act.put, List.setIfInBounds_toArray, List.set_cons_zero, List.set_cons_succ]
  refine wpAny_take (i := 7) (v := .slice (some ⟨w.heap.size, 0, none⟩) 6 6) rfl (by kernel_rfl) (by kernel_rfl) (by kernel_rfl) (fun _ _ _ h => h) (Or.inl ⟨by rfl, fun _ => by rfl⟩) ?_
  simp only [List.getElem_toArray, List.getElem_cons_zero, List.getElem_cons_succ, Act.put, List.setIfInBounds_toArray, List.set_cons_zero, List.set_cons_succ]
  refine Oi.wpAny_start (fun l a W => ∃ b5 b8 b9 b10 b11 b12 b13 b14 v68 v71 v72 v73 v74 v75 v76 g9, l = #[true, true, true, true, true, b5, true, true, b8, b9, b10, b11, b12, b13, b14] ∧ a = ⟨#[.pointer (some ⟨g, 0, none⟩), .string XJ, undef, undef, .slice (some ⟨w.heap.size, 0, none⟩) 6 6, .pointer (some ⟨gv, k * 7, none⟩), .string XJ, .slice (some ⟨w.heap.size, 0, none⟩) 6 6, .pointer (some ⟨g, 0, none⟩), .slice (some ⟨w.heap.size, 0, none⟩) 6 6, .bool false, .bool true, .tuple #[], .slice (some ⟨w.heap.size, 0, none⟩) 6 6, .pointer (some ⟨w.heap.size, 0, none⟩), .string X0, undef, undef, .bool false, .bool false, undef, undef, undef, undef, undef, undef, undef, undef, undef, undef, undef, undef, undef, undef, undef, undef, undef, .bool true, .bool true, .pointer (some ⟨g, 0, none⟩), .slice (some ⟨w.heap.size, 0, none⟩) 6 6, .int .i64 6, .bool true, .bool true, .pointer (some ⟨g, 0, none⟩), .pointer (some ⟨g, 0, none⟩), .pointer (some ⟨g, 1, none⟩), .slice (some ⟨gv, 0, none⟩) N cap, .int .i64 (N : Int), .bool true, .bool true, .tuple #[], .pointer (some ⟨g, 0, none⟩), .pointer (some ⟨g, 0, none⟩), .pointer (some ⟨g, 1, none⟩), .slice (some ⟨gv, 0, none⟩) N cap, .pointer (some ⟨g, 0, none⟩), .pointer (some ⟨g, 0, none⟩), .pointer (some ⟨g, 1, none⟩), .slice (some ⟨gv, 0, none⟩) N cap, .int .i64 (N : Int), .int .i64 (wrap64 (k : Int)), .pointer (some ⟨gv, k * 7, none⟩), .pointer (some ⟨gv, k * 7, none⟩), .pointer (some ⟨gv, k * 7, none⟩), .pointer (some ⟨gv, k * 7, none⟩), .pointer (some ⟨gv, k * 7, none⟩), .pointer (some ⟨gv, k * 7 + 5, none⟩), v68, .pointer (some ⟨g, 0, none⟩), .slice (some ⟨w.heap.size, 0, none⟩) 6 6, v71, v72, v73, v74, v75, v76], []⟩ ∧ LsI #[.string nm, .int .i64 st, .int .i64 sz, .bool bk, .bool sg, .int .i64 mu, .int .i64 di, .int .i64 ad, .int .i64 ky] (fun W => ∃ u', RdS W g base Bm ln (.slice (some ⟨gv, 0, none⟩) N cap) pre (some (D1, u')) ∧ Below base w W) (.slice ua un uc) gv (k * 7) g W2 W b5 b8 b9 b10 b11 b12 b13 b14 v68 v71 v72 v73 v74 v75 v76 g9) #[true, true, true, true, true, false, true, true, false, false, false, false, false, false, false] rfl (by decide) ⟨false, false, false, false, false, false, false, false, undef, undef, undef, undef, undef, undef, undef, 0, rfl, rfl, ?_⟩ ?_ ?_
  · exact ⟨fun e => Bool.noConfusion e, fun e => Bool.noConfusion e, fun e => Bool.noConfusion e, fun e => Bool.noConfusion e, fun _ => ⟨rfl, rfl, rfl, Nat.le_refl _, fun _ _ => rfl⟩, fun e => Bool.noConfusion e, fun e => Bool.noConfusion e, fun e => Bool.noConfusion e, fun e => Bool.noConfusion e, fun e => Bool.noConfusion e, fun e => Bool.noConfusion e, fun e => Bool.noConfusion e, fun e => Bool.noConfusion e⟩
  rotate_left
  · rintro l a W i o ⟨b5, b8, b9, b10, b11, b12, b13, b14, v68, v71, v72, v73, v74, v75, v76, g9, rfl, rfl, hI⟩ h0 ho hall K hK
    have hi : i < 15 := (Array.getElem?_eq_some_iff.1 ho).1
    have hii : i = 0 ∨ i = 1 ∨ i = 2 ∨ i = 3 ∨ i = 4 ∨ i = 5 ∨ i = 6 ∨ i = 7 ∨ i = 8 ∨ i = 9 ∨ i = 10 ∨ i = 11 ∨ i = 12 ∨ i = 13 ∨ i = 14 := by omega
    clear hi
    rcases hii with rfl | rfl | rfl | rfl | rfl | rfl | rfl | rfl | rfl | rfl | rfl | rfl | rfl | rfl | rfl
    · exact Bool.noConfusion h0
    · exact Bool.noConfusion h0
    · exact Bool.noConfusion h0
    · exact Bool.noConfusion h0
    · exact Bool.noConfusion h0
    · simp only [List.getElem?_toArray, List.getElem?_cons_zero, List.getElem?_cons_succ, Option.some.injEq] at ho
      subst ho
      have e10 : b10 = false := by cases hb : b10 with | false => rfl | true => (have h9 := (hI.o10 hb).1; have h8 : b5 = false := h0; rw [h8] at h9; cases h9)
      have c1 := HUW.out W (hI.bel e10)
      have HN : Hid (LsI #[.string nm, .int .i64 st, .int .i64 sz, .bool bk, .bool sg, .int .i64 mu, .int .i64 di, .int .i64 ad, .int .i64 ky] (fun W => ∃ u', RdS W g base Bm ln (.slice (some ⟨gv, 0, none⟩) N cap) pre (some (D1, u')) ∧ Below base w W) (.slice ua un uc) gv (k * 7) g W2 W true b8 b9 b10 b11 b12 b13 b14 (.slice ua un uc) v71 v72 v73 v74 v75 v76 g9) := Hid.mk ⟨fun _ => rfl, hI.c8, hI.s9, hI.h9, hI.bel, hI.p10, hI.f14, hI.o9, fun e => ⟨rfl, (hI.o10 e).2⟩, hI.o14, hI.n11, hI.n12, hI.n13⟩
      clear hall h0 hI e10
      go_simp
      exact hK.out _ _ ⟨_, _, _, _, _, _, _, _, _, _, _, _, _, _, _, _, rfl, rfl, HN.out⟩
    · exact Bool.noConfusion h0
    · exact Bool.noConfusion h0
    · simp only [List.getElem?_toArray, List.getElem?_cons_zero, List.getElem?_cons_succ, Option.some.injEq] at ho
      subst ho
      have e10 : b10 = false := by cases hb : b10 with | false => rfl | true => (have h9 := (hI.o10 hb).2.1; have h8 : b8 = false := h0; rw [h8] at h9; cases h9)
      have e9 : b9 = false := by cases hb : b9 with | false => rfl | true => (have h9 : b8 = true := hI.o9 hb; have h8 : b8 = false := h0; rw [h8] at h9; cases h9)
      subst e10
      have HN : Hid (∀ w', Below W.heap.size W w' → LsI #[.string nm, .int .i64 st, .int .i64 sz, .bool bk, .bool sg, .int .i64 mu, .int .i64 di, .int .i64 ad, .int .i64 ky] (fun W => ∃ u', RdS W g base Bm ln (.slice (some ⟨gv, 0, none⟩) N cap) pre (some (D1, u')) ∧ Below base w W) (.slice ua un uc) gv (k * 7) g W2 w' b5 true b9 false b11 b12 b13 b14 v68 (.agg #[.string nm, .int .i64 st, .int .i64 sz, .bool bk, .bool sg, .int .i64 mu, .int .i64 di, .int .i64 ad, .int .i64 ky]) v72 v73 v74 v75 v76 g9) := Hid.mk (fun w' hb => ⟨hI.l5, fun _ => rfl, hI.s9, (fun e => by rw [e9] at e; cases e), fun _ => bl2 (hI.bel rfl) hb, fun e => Bool.noConfusion e, fun e => absurd (hI.o14 e) (by simp), fun _ => rfl, fun e => Bool.noConfusion e, hI.o14, hI.n11, hI.n12, hI.n13⟩)
      have HC := Hid.mk (HRM1.out W (hI.bel rfl))
      clear hall h0 hI e9
      go_simp
      go_wp2_with fail
      with_reducible refine HC.out.mono ?_
      rintro e W3 ⟨rfl, hb3⟩
      have HN3 := Hid.mk (HN.out W3 hb3)
      clear hb3 HN HC
      go_wp2_with fail
      exact hK.out _ _ ⟨_, _, _, _, _, _, _, _, _, _, _, _, _, _, _, _, rfl, rfl, HN3.out⟩
    · simp only [List.getElem?_toArray, List.getElem?_cons_zero, List.getElem?_cons_succ, Option.some.injEq] at ho
      subst ho
      have e10 : b10 = false := by cases hb : b10 with | false => rfl | true => (have h9 := (hI.o10 hb).2.2; have h8 : b9 = false := h0; rw [h8] at h9; cases h9)
      have e8 : b8 = true := hall ⟨8, .data⟩ (by simp) rfl
      have hv := hI.c8 e8
      subst hv
      subst e10
      have HN : Hid (LsI #[.string nm, .int .i64 st, .int .i64 sz, .bool bk, .bool sg, .int .i64 mu, .int .i64 di, .int .i64 ad, .int .i64 ky] (fun W => ∃ u', RdS W g base Bm ln (.slice (some ⟨gv, 0, none⟩) N cap) pre (some (D1, u')) ∧ Below base w W) (.slice ua un uc) gv (k * 7) g W2 (W.alloc (.cells #[.string nm, .int .i64 st, .int .i64 sz, .bool bk, .bool sg, .int .i64 mu, .int .i64 di, .int .i64 ad, .int .i64 ky] 42)) b5 b8 true false b11 b12 b13 b14 v68 (.agg #[.string nm, .int .i64 st, .int .i64 sz, .bool bk, .bool sg, .int .i64 mu, .int .i64 di, .int .i64 ad, .int .i64 ky]) (.slice (some ⟨W.heap.size, 0, none⟩) 1 1) v73 v74 v75 v76 W.heap.size) := Hid.mk ⟨hI.l5, hI.c8, fun _ => rfl, fun _ _ => heap_alloc_new W _, fun _ => bl2 (hI.bel rfl) (awB1 W _), fun e => Bool.noConfusion e, fun e => absurd (hI.o14 e) (by simp), fun _ => e8, fun e => Bool.noConfusion e, hI.o14, hI.n11, hI.n12, hI.n13⟩
      clear hall h0 hI e8
      go_simp
      exact hK.out _ _ ⟨_, _, _, _, _, _, _, _, _, _, _, _, _, _, _, _, rfl, rfl, HN.out⟩
    · simp only [List.getElem?_toArray, List.getElem?_cons_zero, List.getElem?_cons_succ, Option.some.injEq] at ho
      subst ho
      have e5 : b5 = true := hall ⟨5, .data⟩ (by simp) rfl
      have e9 : b9 = true := hall ⟨9, .data⟩ (by simp) rfl
      have e8 : b8 = true := hall ⟨8, .chain⟩ (by simp) rfl
      have e10 : b10 = false := h0
      have e14 : b14 = false := by cases hb : b14 with | false => rfl | true => (have h9 := hI.o14 hb; rw [e10] at h9; cases h9)
      have hv1 := hI.l5 e5
      have hv2 := hI.s9 e9
      obtain ⟨xa, xk, xc, w8, hr8, hR8, hL8, hc8, hf8⟩ := HAP2.out W g9 (hI.bel e10) (hI.h9 e9 e10)
      subst hv1 hv2
      refine step_append_runT W rfl (.tmp 68) (.tmp 72) 22 22 rfl _ _ rfl rfl _ _ hr8 ?_
      refine hK.out _ _ ⟨_, _, _, _, _, _, _, _, _, _, _, _, _, _, _, g9, rfl, rfl, ?_⟩
      exact ⟨fun _ => rfl, hI.c8, fun _ => rfl, fun _ e => Bool.noConfusion e, fun e => Bool.noConfusion e, fun _ _ => ⟨⟨xa, xk, xc, rfl⟩, hc8, hf8, _, hR8, hL8⟩, (fun e => by rw [e14] at e; cases e), hI.o9, fun _ => ⟨e5, e8, e9⟩, fun _ => rfl, hI.n11, hI.n12, hI.n13⟩
    · simp only [List.getElem?_toArray, List.getElem?_cons_zero, List.getElem?_cons_succ, Option.some.injEq] at ho
      subst ho
      have HN : Hid (LsI #[.string nm, .int .i64 st, .int .i64 sz, .bool bk, .bool sg, .int .i64 mu, .int .i64 di, .int .i64 ad, .int .i64 ky] (fun W => ∃ u', RdS W g base Bm ln (.slice (some ⟨gv, 0, none⟩) N cap) pre (some (D1, u')) ∧ Below base w W) (.slice ua un uc) gv (k * 7) g W2 W b5 b8 b9 b10 true b12 b13 b14 v68 v71 v72 v73 (.pointer (some ⟨gv, k * 7, none⟩)) v75 v76 g9) := Hid.mk ⟨hI.l5, hI.c8, hI.s9, hI.h9, hI.bel, hI.p10, hI.f14, hI.o9, hI.o10, hI.o14, fun _ => rfl, hI.n12, hI.n13⟩
      clear hall h0 hI
      go_simp
      exact hK.out _ _ ⟨_, _, _, _, _, _, _, _, _, _, _, _, _, _, _, _, rfl, rfl, HN.out⟩
    · simp only [List.getElem?_toArray, List.getElem?_cons_zero, List.getElem?_cons_succ, Option.some.injEq] at ho
      subst ho
      have ep : b11 = true := hall ⟨11, .data⟩ (by simp) rfl
      have hv := hI.n11 ep
      subst hv
      have HN : Hid (LsI #[.string nm, .int .i64 st, .int .i64 sz, .bool bk, .bool sg, .int .i64 mu, .int .i64 di, .int .i64 ad, .int .i64 ky] (fun W => ∃ u', RdS W g base Bm ln (.slice (some ⟨gv, 0, none⟩) N cap) pre (some (D1, u')) ∧ Below base w W) (.slice ua un uc) gv (k * 7) g W2 W b5 b8 b9 b10 b11 true b13 b14 v68 v71 v72 v73 (.pointer (some ⟨gv, k * 7, none⟩)) (.pointer (some ⟨gv, k * 7, none⟩)) v76 g9) := Hid.mk ⟨hI.l5, hI.c8, hI.s9, hI.h9, hI.bel, hI.p10, hI.f14, hI.o9, hI.o10, hI.o14, hI.n11, fun _ => rfl, hI.n13⟩
      clear hall h0 hI ep
      go_simp
      exact hK.out _ _ ⟨_, _, _, _, _, _, _, _, _, _, _, _, _, _, _, _, rfl, rfl, HN.out⟩
    · simp only [List.getElem?_toArray, List.getElem?_cons_zero, List.getElem?_cons_succ, Option.some.injEq] at ho
      subst ho
      have ep : b12 = true := hall ⟨12, .data⟩ (by simp) rfl
      have hv := hI.n12 ep
      subst hv
      have HN : Hid (LsI #[.string nm, .int .i64 st, .int .i64 sz, .bool bk, .bool sg, .int .i64 mu, .int .i64 di, .int .i64 ad, .int .i64 ky] (fun W => ∃ u', RdS W g base Bm ln (.slice (some ⟨gv, 0, none⟩) N cap) pre (some (D1, u')) ∧ Below base w W) (.slice ua un uc) gv (k * 7) g W2 W b5 b8 b9 b10 b11 b12 true b14 v68 v71 v72 v73 v74 (.pointer (some ⟨gv, k * 7, none⟩)) (.pointer (some ⟨gv, k * 7 + 5, none⟩)) g9) := Hid.mk ⟨hI.l5, hI.c8, hI.s9, hI.h9, hI.bel, hI.p10, hI.f14, hI.o9, hI.o10, hI.o14, hI.n11, hI.n12, fun _ => rfl⟩
      clear hall h0 hI ep
      go_simp
      exact hK.out _ _ ⟨_, _, _, _, _, _, _, _, _, _, _, _, _, _, _, _, rfl, rfl, HN.out⟩
    · simp only [List.getElem?_toArray, List.getElem?_cons_zero, List.getElem?_cons_succ, Option.some.injEq] at ho
      subst ho
      have e13 : b13 = true := hall ⟨13, .data⟩ (by simp) rfl
      have e10 : b10 = true := hall ⟨10, .data⟩ (by simp) rfl
      have e14 : b14 = false := h0
      have hv := hI.n13 e13
      obtain ⟨⟨xa, xk, xc, hv2⟩, c1, f1, u9, hR9, hL9⟩ := hI.p10 e10 e14
      subst hv hv2
      have HN : Hid (LsI #[.string nm, .int .i64 st, .int .i64 sz, .bool bk, .bool sg, .int .i64 mu, .int .i64 di, .int .i64 ad, .int .i64 ky] (fun W => ∃ u', RdS W g base Bm ln (.slice (some ⟨gv, 0, none⟩) N cap) pre (some (D1, u')) ∧ Below base w W) (.slice ua un uc) gv (k * 7) g W2 (W.setCell ⟨gv, k * 7 + 5, none⟩ (.slice xa xk xc)) b5 b8 b9 b10 b11 b12 b13 true v68 v71 v72 (.slice xa xk xc) v74 v75 (.pointer (some ⟨gv, k * 7 + 5, none⟩)) g9) := Hid.mk ⟨hI.l5, hI.c8, hI.s9, (fun _ e => by rw [e10] at e; cases e), (fun e => by rw [e10] at e; cases e), fun _ e => Bool.noConfusion e, fun _ => ⟨u9, hR9, hL9⟩, hI.o9, hI.o10, fun _ => e10, hI.n11, hI.n12, hI.n13⟩
      clear hall h0 hI e13 e10 e14 hR9 hL9
      go_simp
      exact hK.out _ _ ⟨_, _, _, _, _, _, _, _, _, _, _, _, _, _, _, _, rfl, rfl, HN.out⟩
  rintro l a W ⟨b5, b8, b9, b10, b11, b12, b13, b14, v68, v71, v72, v73, v74, v75, v76, g9, rfl, rfl, hI⟩ hr
  cases b5 with
  | false => exact (Oi.ready_nil (i := 5) hr rfl rfl (by intro e he _; simp at he; try (first | (rcases he with rfl <;> rfl) | (rcases he with rfl | rfl <;> rfl) | (rcases he with rfl <;> rfl) | (subst he; rfl)))).elim
  | true =>
  cases b8 with
  | false => exact (Oi.ready_nil (i := 8) hr rfl rfl (by intro e he _; simp at he; try (first | (rcases he with rfl | rfl <;> rfl) | (rcases he with rfl | rfl | rfl <;> rfl) | (rcases he with rfl <;> rfl) | (subst he; rfl)))).elim
  | true =>
  cases b9 with
  | false => exact (Oi.ready_nil (i := 9) hr rfl rfl (by intro e he _; simp at he; try (first | (rcases he with rfl <;> rfl) | (rcases he with rfl | rfl <;> rfl) | (rcases he with rfl <;> rfl) | (subst he; rfl)))).elim
  | true =>
  cases b10 with
  | false => exact (Oi.ready_nil (i := 10) hr rfl rfl (by intro e he _; simp at he; try (first | (rcases he with rfl | rfl | rfl <;> rfl) | (rcases he with rfl | rfl | rfl | rfl <;> rfl) | (rcases he with rfl | rfl <;> rfl) | (subst he; rfl)))).elim
  | true =>
  cases b11 with
  | false => exact (Oi.ready_nil (i := 11) hr rfl rfl (by intro e he _; simp at he; try (first | (rcases he with rfl | rfl | rfl | rfl | rfl | rfl | rfl | rfl | rfl | rfl | rfl | rfl <;> rfl) | (rcases he with rfl | rfl | rfl | rfl | rfl | rfl | rfl | rfl | rfl | rfl | rfl | rfl | rfl <;> rfl) | (rcases he with rfl | rfl | rfl | rfl | rfl | rfl | rfl | rfl | rfl | rfl | rfl <;> rfl) | (subst he; rfl)))).elim
  | true =>
  cases b12 with
  | false => exact (Oi.ready_nil (i := 12) hr rfl rfl (by intro e he _; simp at he; try (first | (rcases he with rfl | rfl | rfl | rfl | rfl | rfl | rfl | rfl | rfl | rfl | rfl | rfl <;> rfl) | (rcases he with rfl | rfl | rfl | rfl | rfl | rfl | rfl | rfl | rfl | rfl | rfl | rfl | rfl <;> rfl) | (rcases he with rfl | rfl | rfl | rfl | rfl | rfl | rfl | rfl | rfl | rfl | rfl <;> rfl) | (subst he; rfl)))).elim
  | true =>
  cases b13 with
  | false => exact (Oi.ready_nil (i := 13) hr rfl rfl (by intro e he _; simp at he; try (first | (rcases he with rfl | rfl | rfl | rfl | rfl | rfl | rfl | rfl | rfl | rfl | rfl | rfl <;> rfl) | (rcases he with rfl | rfl | rfl | rfl | rfl | rfl | rfl | rfl | rfl | rfl | rfl | rfl | rfl <;> rfl) | (rcases he with rfl | rfl | rfl | rfl | rfl | rfl | rfl | rfl | rfl | rfl | rfl <;> rfl) | (subst he; rfl)))).elim
  | true =>
  cases b14 with
  | false => exact (Oi.ready_nil (i := 14) hr rfl rfl (by intro e he _; simp at he; try (first | (rcases he with rfl | rfl | rfl | rfl | rfl | rfl | rfl | rfl | rfl | rfl | rfl | rfl | rfl | rfl <;> rfl) | (rcases he with rfl | rfl | rfl | rfl | rfl | rfl | rfl | rfl | rfl | rfl | rfl | rfl | rfl | rfl | rfl <;> rfl) | (rcases he with rfl | rfl | rfl | rfl | rfl | rfl | rfl | rfl | rfl | rfl | rfl | rfl | rfl <;> rfl) | (subst he; rfl)))).elim
  | true =>
  obtain ⟨u', hR, hL⟩ := hI.f14 rfl
  have HRS := Hid.mk hR
  have HBL := Hid.mk hL
  clear hI hr hR hL
  go_wp2_with fail
  go_end0
  exact ⟨rfl, _, HRS, HBL⟩
end Bw
end Go.Proofs.YtlnkhlifkooohaaGreatDoor
namespace Go.Proofs.YtlnkhlifkooohaaGreatDoor
open Go.ChangeShapes Go.WideShapes Go.ChangeAt Go.RowKit Go.Sort
namespace Bw
open Sm
set_option maxRecDepth 100000 in
set_option maxHeartbeats 1000000 in
theorem read1_idle (p q r : Addr) (w : World) :
    CallsD Tryz.prog 111 #[.pointer (some p), .pointer (some q), .pointer (some r)] .returning w fun e u' w' => e = .returned (.tuple #[]) ∧ u' = .returning ∧ w' = w := by
  refine callsD_of_wpS Tryz.func111 rfl fun c₀ cs hu => ?_
  apply wpS_seq
  apply wpS_region
  simp [wpOpsS, go_sem, recoverD, hu, Tryz.ntmps111, Exit.thenS]
  have hta : ∀ w, (Instr.typeAssert .nilIface 20 151 true).run Tryz.prog w = .ok (.tuple #[.int .i64 0, .bool false]) w := fun _ => rfl
  refine wpS_of_wp ?_
  simp only [Array.replicate, List.replicate]
  go_wp2_with fail
  cases c₀
  simp only at hu
  subst hu
  simp [bodyPostS, results, Tryz.results111]
/-- a line: a message's, a signal's -/
inductive Ln where
  | ms (m : Msg)
  | sg (s : Sig)
def Ln.ws : Ln → List (List UInt8)
  | .ms m => wordsM m
  | .sg s => wordsS s
def lnsT (l : List Ln) : List UInt8 := l.flatMap fun x => lineL x.ws
def drM (m : Msg) : Dr := ⟨m.id, m.lo, m.nm, m.size, bA (chL m), []⟩
def drOf (m : Msg) : Dr := ⟨m.id, m.lo, m.nm, m.size, bA (chL m), m.sigs⟩
def stepD (x : List Dr × Option Dr) : Ln → List Dr × Option Dr
  | .ms m => (x.1 ++ x.2.toList, some (drM m))
  | .sg s => (x.1, x.2.map fun d => { d with sigs := d.sigs ++ [s] })
def foldD (l : List Ln) : List Dr × Option Dr := l.foldl stepD ([], none)
theorem foldD_snoc (l : List Ln) (x : Ln) : foldD (l ++ [x]) = stepD (foldD l) x := by simp [foldD]
def itemsM (m : Msg) : List Ln := .ms m :: m.sigs.map .sg
def items (l : List Msg) : List Ln := l.flatMap itemsM
theorem foldl_sg : ∀ (l : List Sig) (pre : List Dr) (d : Dr), (l.map Ln.sg).foldl stepD (pre, some d) = (pre, some { d with sigs := d.sigs ++ l })
  | [], pre, d => by simp
  | s :: l, pre, d => by
    rw [List.map_cons, List.foldl_cons, show stepD (pre, some d) (Ln.sg s) = (pre, some { d with sigs := d.sigs ++ [s] }) from rfl, foldl_sg l]
    simp
theorem foldl_items : ∀ (l : List Msg) (x : List Dr × Option Dr), ((items l).foldl stepD x).1 ++ ((items l).foldl stepD x).2.toList = x.1 ++ x.2.toList ++ l.map drOf
  | [], x => by simp [items]
  | m :: l, x => by
    rw [show items (m :: l) = itemsM m ++ items l by simp [items], List.foldl_append, show (itemsM m).foldl stepD x = (m.sigs.map Ln.sg).foldl stepD (x.1 ++ x.2.toList, some (drM m)) from rfl, foldl_sg, foldl_items l]
    simp [drM, drOf]
theorem lnsT_items (l : List Msg) : lnsT (items l) = textT l := by
  induction l with
  | nil => rfl
  | cons m l ih =>
    rw [show items (m :: l) = itemsM m ++ items l by simp [items], show textT (m :: l) = msgT m ++ textT l by simp [textT], ← ih]
    rw [show lnsT (itemsM m ++ items l) = lnsT (itemsM m) ++ lnsT (items l) by simp [lnsT]]
    congr 1
    simp [lnsT, itemsM, msgT, sigsT, Ln.ws, List.flatMap_map]
theorem fold_len : ∀ (l : List Ln) (x : List Dr × Option Dr) (n : Nat), x.1.length + x.2.toList.length ≤ n → (∀ d, x.2 = some d → d.sigs.length ≤ n) → (l.foldl stepD x).1.length + (l.foldl stepD x).2.toList.length ≤ n + l.length ∧ ∀ d, (l.foldl stepD x).2 = some d → d.sigs.length ≤ n + l.length
  | [], x, n, h1, h2 => ⟨h1, h2⟩
  | y :: l, x, n, h1, h2 => by
    rw [List.foldl_cons, List.length_cons]
    have h := fold_len l (stepD x y) (n + 1) ?_ ?_
    · rw [show n + (l.length + 1) = n + 1 + l.length by omega]
      exact h
    · cases y with
      | ms m => simp [stepD]; omega
      | sg s =>
        obtain ⟨a, b⟩ := x
        cases b with
        | none => simp [stepD] at h1 ⊢; omega
        | some d => simp [stepD] at h1 ⊢; omega
    · intro d hd
      cases y with
      | ms m =>
        have e : drM m = d := Option.some.inj hd
        rw [← e]
        simp [drM]
      | sg s =>
        obtain ⟨a, b⟩ := x
        cases b with
        | none => simp [stepD] at hd
        | some d0 =>
          have e : { d0 with sigs := d0.sigs ++ [s] } = d := Option.some.inj hd
          have := h2 d0 rfl
          rw [← e]
          simp
          omega
def Ln.ok : Ln → Prop
  | .ms m => MB m
  | .sg s => SB s
theorem Ln.words {x : Ln} (h : x.ok) : ∀ y ∈ x.ws, WordOk y := by
  cases x with
  | ms m => exact wordsM_ok h
  | sg s => exact wordsS_ok h
def shp (pre : List (Dr × Value)) (cur : Option (Dr × Value)) : List Dr × Option Dr := (pre.map (·.1), cur.map (·.1))
/-- a right line is read -/
theorem readLine_ok (x : Ln) (g base Bm : Nat) (ln : Int) (v : Value) (pre : List (Dr × Value)) (cur : Option (Dr × Value)) (w : World) (hS : RdS w g base Bm ln v pre cur) (hB : x.ok) (hT : TxT w) (hfit : ∀ s, x = .sg s → cur ≠ none) (hN : (pre ++ cur.toList).length ≤ 1000) (hL : ∀ y, cur = some y → y.1.sigs.length ≤ 1000) :
    Calls Tryz.prog 114 #[.pointer (some ⟨g, 0, none⟩), .string (bA (Lib.join x.ws [32]))] w fun e w' => e = .returned (.tuple #[]) ∧ ∃ v' Bm' pre' cur', Hid (RdS w' g base Bm' ln v' pre' cur') ∧ Hid (Below base w w') ∧ Hid (shp pre' cur' = stepD (shp pre cur) x) := by
  cases x with
  | ms m =>
    refine (readLine_msg m g base Bm ln v pre cur w hS hB hT hN).mono ?_
    rintro e w' ⟨rfl, v', Bm', h1, h2⟩
    refine ⟨rfl, v', Bm', _, _, h1, h2, Hid.mk ?_⟩
    cases cur <;> simp [shp, stepD, drM]
  | sg s =>
    cases cur with
    | none => exact absurd rfl (hfit s rfl)
    | some y =>
      obtain ⟨d, u⟩ := y
      obtain ⟨gv, cap, cs, hv, _⟩ := hS.place
      subst hv
      refine (readLine_sig s g base Bm gv cap ln pre d u w hS hB hT (by simp at hN; omega) (hL _ rfl)).mono ?_
      rintro e w' ⟨rfl, u', h1, h2⟩
      exact ⟨rfl, _, _, _, _, h1, h2, Hid.mk (by simp [shp, stepD])⟩
/-- the line's number is told anew -/
theorem RdS.tick {w : World} {g base Bm : Nat} {ln : Int} {v : Value} {pre : List (Dr × Value)} {cur : Option (Dr × Value)} (h : RdS w g base Bm ln v pre cur) (n : Int) : RdS (w.setCell ⟨g, 0, none⟩ (.int .i64 n)) g base Bm n v pre cur := by
  have hg := heap_setCell_same w g 0 _ _ (.int .i64 n) h.rd
  have hk : ∀ x : Dr × Value, ∀ b, SRow w b x → SRow (w.setCell ⟨g, 0, none⟩ (.int .i64 n)) b x := fun x b h1 => owns_keep h1 (fun q hq => heap_setCell_other w ⟨g, 0, none⟩ q _ (srow_ne h1 h.rd (by decide) hq))
  exact ⟨hg, owns_keep h.own (fun q hq => heap_setCell_other w ⟨g, 0, none⟩ q _ (h.vg hq)), fun x hx => ⟨hk x _ (h.rows x hx).1, (h.rows x hx).2⟩, fun x hx => hk x _ (h.last x hx), h.bg, h.bm, by simpa using h.sz⟩
/-- what lies below may turn -/
theorem RdS.low {w w' : World} {g base Bm : Nat} {ln : Int} {v : Value} {pre : List (Dr × Value)} {cur : Option (Dr × Value)} (h : RdS w g base Bm ln v pre cur) (hs : w.heap.size ≤ w'.heap.size) (hk : ∀ q, base ≤ q → w'.heap[q]? = w.heap[q]?) : RdS w' g base Bm ln v pre cur :=
  ⟨(hk g h.bg).trans h.rd, owns_keep h.own (fun q hq => hk q (owns_lt h.own hq).1), fun x hx => ⟨owns_keep (h.rows x hx).1 (fun q hq => hk q (owns_lt (h.rows x hx).1 hq).1), (h.rows x hx).2⟩, fun x hx => owns_keep (h.last x hx) (fun q hq => hk q (Nat.le_trans h.bm (owns_lt (h.last x hx) hq).1)), h.bg, h.bm, Nat.le_trans h.sz hs⟩
end Bw
end Go.Proofs.YtlnkhlifkooohaaGreatDoor
namespace Go.Proofs.YtlnkhlifkooohaaGreatDoor
open Go.ChangeShapes Go.WideShapes Go.ChangeAt Go.RowKit Go.Sort
namespace Bw
open Sm
theorem lnsT_cons (x : Ln) (l : List Ln) : lnsT (x :: l) = Lib.join x.ws [32] ++ 10 :: lnsT l := by simp [lnsT, lineL]
theorem lnsT_ne (x : Ln) (l : List Ln) : ¬ bA (lnsT (x :: l)) = (⟨#[]⟩ : ByteArray) := fun e => by
  have h := bA_inj (a := lnsT (x :: l)) (b := []) e
  rw [lnsT_cons] at h
  simp at h
theorem drop_cons {l : List Ln} {k : Nat} (h : k < l.length) : l.drop k = l[k] :: l.drop (k + 1) := List.drop_eq_getElem_cons h
theorem fold_take {l : List Ln} {k : Nat} (h : k < l.length) : foldD (l.take (k + 1)) = stepD (foldD (l.take k)) l[k] := by
  rw [← foldD_snoc, List.take_succ_eq_append_getElem h]
theorem lns_drop : ∀ (l : List Ln) (k : Nat), (lnsT (l.drop k)).length ≤ (lnsT l).length
  | [], k => by simp
  | x :: l, 0 => by simp
  | x :: l, k + 1 => by
    have := lns_drop l k
    rw [List.drop_succ_cons, lnsT_cons, List.length_append, List.length_cons]
    omega
def strSz : Value → Nat
  | .string b => b.size
  | _ => 0
theorem RdS.fresh (w : World) : RdS (w.alloc (.cells #[.int .i64 0, .slice none 0 0] 154)) w.heap.size w.heap.size w.heap.size 0 (.slice none 0 0) [] none :=
  ⟨heap_alloc_new w _, ⟨rfl, .inl ⟨rfl, rfl⟩⟩, fun x hx => (by simp at hx), fun x hx => (by cases hx), Nat.le_refl _, Nat.le_refl _, by simp⟩
set_option maxHeartbeats 8000000 in
set_option maxRecDepth 100000 in
theorem read_ok (l : List Ln) (n : Nat) (w : World) (hn : l.length = n) (hT : TxT w) (hM : ∀ x ∈ l, x.ok) (hfit : ∀ (k : Nat) (h : k < l.length) (s : Sig), l[k] = .sg s → (foldD (l.take k)).2 ≠ none) (hlen : (lnsT l).length ≤ 50000) (hN : n ≤ 900) :
    Calls Tryz.prog 69 #[.string (bA (lnsT l))] w fun e w' => ∃ v pre cur Bm, e = .returned (.tuple #[v, .int .i64 0, .bool true]) ∧ Hid (RdS w' (w.heap.size + 3) (w.heap.size + 3) Bm n v pre cur) ∧ Hid (shp pre cur = foldD l) ∧ Hid (Below w.heap.size w w') := by
  have hmf : ∀ (fn : Fn) (first cap : Array Value) (w : World), (Instr.makeFunc fn first cap).run Tryz.prog w = .ok (.func fn first cap) w := fun _ _ _ _ => rfl
  have HM := Hid.mk hM
  have HFT := Hid.mk hfit
  have HLN := Hid.mk hn
  have HTT := Hid.mk hT
  have HLE := Hid.mk hlen
  clear hM hfit hn hT hlen
  go_enter_defers Tryz.func69, Tryz.ntmps69
  go_wp2_with fail
  have HTL : Hid (∀ W, Below (w.heap.size + 3) (((w.alloc (.cells #[.slice none 0 0] 113)).alloc (.cells #[.int .i64 0] 3)).alloc (.cells #[.bool false] 4)) W → Below w.heap.size w W ∧ W.heap[w.heap.size]? = some (.cells #[.slice none 0 0] 113 (0, 0)) ∧ W.heap[w.heap.size + 1]? = some (.cells #[.int .i64 0] 3 (0, 0)) ∧ W.heap[w.heap.size + 1 + 1]? = some (.cells #[.bool false] 4 (0, 0))) := Hid.mk (fun W h => by
    have a1 := awB1 w (.cells #[.slice none 0 0] 113)
    have a2 := awB1 (w.alloc (.cells #[.slice none 0 0] 113)) (.cells #[.int .i64 0] 3)
    have a3 := awB1 ((w.alloc (.cells #[.slice none 0 0] 113)).alloc (.cells #[.int .i64 0] 3)) (.cells #[.bool false] 4)
    have n1 := heap_alloc_new w (.cells #[.slice none 0 0] 113)
    have n2 := heap_alloc_new (w.alloc (.cells #[.slice none 0 0] 113)) (.cells #[.int .i64 0] 3)
    have n3 := heap_alloc_new ((w.alloc (.cells #[.slice none 0 0] 113)).alloc (.cells #[.int .i64 0] 3)) (.cells #[.bool false] 4)
    have z1 : (w.alloc (.cells #[.slice none 0 0] 113)).heap.size = w.heap.size + 1 := by simp
    have z2 : ((w.alloc (.cells #[.slice none 0 0] 113)).alloc (.cells #[.int .i64 0] 3)).heap.size = w.heap.size + 1 + 1 := by simp
    have a := bl2 (bl2 a1 a2) a3
    rw [z1] at a2 n2
    rw [z2] at a3 n3
    refine ⟨bl2 a ⟨h.os, h.tape, h.output, h.size, fun k hk => h.block k (by simp at hk; omega)⟩, ?_, ?_, ?_⟩
    · exact ((h.block _ (by omega)).trans (a3.block _ (by omega))).trans ((a2.block _ (by omega)).trans n1)
    · exact (h.block _ (by omega)).trans ((a3.block _ (by omega)).trans n2)
    · exact (h.block _ (by omega)).trans n3)
  have HRD : Hid (RdS ((((w.alloc (.cells #[.slice none 0 0] 113)).alloc (.cells #[.int .i64 0] 3)).alloc (.cells #[.bool false] 4)).alloc (.cells #[.int .i64 0, .slice none 0 0] 154)) (w.heap.size + 1 + 1 + 1) (w.heap.size + 1 + 1 + 1) (w.heap.size + 1 + 1 + 1) 0 (.slice none 0 0) [] none) := Hid.mk (by
    have h := RdS.fresh (((w.alloc (.cells #[.slice none 0 0] 113)).alloc (.cells #[.int .i64 0] 3)).alloc (.cells #[.bool false] 4))
    simpa using h)
  have HB0 : Hid (Below (w.heap.size + 3) (((w.alloc (.cells #[.slice none 0 0] 113)).alloc (.cells #[.int .i64 0] 3)).alloc (.cells #[.bool false] 4)) ((((w.alloc (.cells #[.slice none 0 0] 113)).alloc (.cells #[.int .i64 0] 3)).alloc (.cells #[.bool false] 4)).alloc (.cells #[.int .i64 0, .slice none 0 0] 154))) := Hid.mk (by
    have h := awB1 (((w.alloc (.cells #[.slice none 0 0] 113)).alloc (.cells #[.int .i64 0] 3)).alloc (.cells #[.bool false] 4)) (.cells #[.int .i64 0, .slice none 0 0] 154)
    exact ⟨h.os, h.tape, h.output, h.size, fun k hk => h.block k (by simp; omega)⟩)
  obtain ⟨W4, hW4⟩ : ∃ W4, W4 = ((((w.alloc (.cells #[.slice none 0 0] 113)).alloc (.cells #[.int .i64 0] 3)).alloc (.cells #[.bool false] 4)).alloc (.cells #[.int .i64 0, .slice none 0 0] 154)) := ⟨_, rfl⟩
  rw [← hW4] at HRD HB0 ⊢
  clear hW4
  generalize (((w.alloc (.cells #[.slice none 0 0] 113)).alloc (.cells #[.int .i64 0] 3)).alloc (.cells #[.bool false] 4)) = W3 at *
  have HSZ : Hid (∀ W, Below w.heap.size w W → TxT W) := Hid.mk (fun W h => HTT.out.kept h)
  go_loopw [0] (fun x wr => ∃ k : Nat, k ≤ n ∧ x = .string (bA (lnsT (l.drop k))) ∧ ∃ v pre cur Bm, Hid (RdS wr (w.heap.size + 1 + 1 + 1) (w.heap.size + 1 + 1 + 1) Bm k v pre cur) ∧ Hid (shp pre cur = foldD (l.take k)) ∧ Hid (Below (w.heap.size + 3) W3 wr)) (fun x _ => strSz x)
  case atStart => exact ⟨0, Nat.zero_le _, rfl, _, _, _, _, HRD, Hid.mk rfl, HB0⟩
  case round =>
    obtain ⟨k, hk, rfl, v, pre, cur, Bm, HR, HSH, HB⟩ := hrel
    by_cases hlt : k < n
    · have hkl : k < l.length := by rw [HLN.out]; exact hlt
      have HDR := Hid.mk (drop_cons hkl)
      have HOK := Hid.mk (HM.out _ (List.getElem_mem hkl))
      have HFK := Hid.mk (HFT.out k hkl)
      have HFO := Hid.mk (fold_take hkl)
      have HLD := Hid.mk (lns_drop l k)
      generalize l[k] = x at *
      have hX : ¬ bA (lnsT (l.drop k)) = (⟨#[]⟩ : ByteArray) := by rw [HDR.out]; exact lnsT_ne x _
      have HE : Hid (bA (lnsT (l.drop k)) = bA (Lib.join x.ws [32] ++ 10 :: lnsT (l.drop (k + 1)))) := Hid.mk (by rw [HDR.out, lnsT_cons])
      have HT1 := Hid.mk (HSZ.out _ (HTL.out _ HB.out).1)
      have HC := Hid.mk (cutD (Lib.join x.ws [32]) (lnsT (l.drop (k + 1))) 10 wr HT1.out (join_no (by decide) _ (fun y hy => (Ln.words HOK.out y hy).2.1)) (by have := HLD.out; have := HLE.out; rw [HDR.out, lnsT_cons] at *; omega))
      rw [← HE.out] at HC
      have HME : Hid (strSz (.string (bA (lnsT (l.drop (k + 1))))) < strSz (.string (bA (lnsT (l.drop k))))) := Hid.mk (by
        show (bA _).size < (bA _).size
        rw [bA_size, bA_size, HDR.out, lnsT_cons, List.length_append, List.length_cons]
        omega)
      have x0 := str_lit (l := []) hX
      clear hX HT1 HDR HE HLD
      generalize bA (lnsT (l.drop k)) = X at *
      obtain ⟨XR, hXR⟩ : ∃ XR, XR = bA (lnsT (l.drop (k + 1))) := ⟨_, rfl⟩
      have HXR := Hid.mk hXR
      rw [← hXR] at HC HME
      clear hXR
      have HRL := Hid.mk (fun W (hS : RdS W (w.heap.size + 1 + 1 + 1) (w.heap.size + 1 + 1 + 1) Bm k v pre cur) (hT : TxT W) => readLine_ok x (w.heap.size + 1 + 1 + 1) (w.heap.size + 1 + 1 + 1) Bm k v pre cur W hS HOK.out hT (fun s hs => by
        have h := HFK.out s hs
        rw [← HSH.out] at h
        intro e
        rw [e] at h
        exact h rfl) (by
        have h := (fold_len (l.take k) ([], none) 0 (by simp) (by simp)).1
        have h2 : (shp pre cur).1.length + (shp pre cur).2.toList.length ≤ 0 + (l.take k).length := by rw [HSH.out]; exact h
        have h3 : (l.take k).length ≤ k := by simp; omega
        cases cur <;> simp [shp] at h2 ⊢ <;> omega) (fun y hy => by
        have h := (fold_len (l.take k) ([], none) 0 (by simp) (by simp)).2 y.1
        have h2 : (shp pre cur).2 = some y.1 := by rw [hy]; rfl
        rw [HSH.out] at h2
        have h3 : (l.take k).length ≤ k := by simp; omega
        have h4 := h h2
        omega))
      have HND := Hid.mk (fun W => need_ok (.pointer (some ⟨w.heap.size + 1 + 1 + 1, 0, none⟩)) W)
      generalize bA (Lib.join x.ws [32]) = XL at *
      go_wp2_with fail
      refine HC.out.mono ?_
      rintro e w1 ⟨rfl, hb1⟩
      have HR1 := Hid.mk (HR.out.kept hb1)
      have HSZr : Hid (w.heap.size + 3 ≤ wr.heap.size) := Hid.mk (by have h1 := HR.out.sz; have h2 := HR.out.bm; omega)
      have HB1 : Hid (Below (w.heap.size + 3) W3 w1) := Hid.mk (HB.out.trans ⟨hb1.os, hb1.tape, hb1.output, hb1.size, fun j hj => hb1.block j (by have := HSZr.out; omega)⟩)
      clear hb1 HR HB HC x0
      go_wp2_with fail
      refine (HND.out _).mono ?_
      rintro e w2 ⟨rfl, hw2⟩
      rw [hw2]
      clear hw2 w2
      go_wp2_with fail
      refine (HRL.out _ HR1.out (HSZ.out _ (HTL.out _ HB1.out).1)).mono ?_
      rintro e w2 ⟨rfl, v', Bm', pre', cur', HR2, HB2, HSH2⟩
      have HB3 : Hid (Below (w.heap.size + 3) W3 w2) := Hid.mk (HB1.out.trans HB2.out)
      have hg2 := HR2.out.rd
      have c0 := cell_of_row _ _ 0 _ _ _ hg2
      have f0 := frozen_of_row _ _ 0 _ _ hg2
      simp only [List.getElem?_toArray, List.getElem?_cons_zero] at c0
      clear hg2 HR1 HB1 HB2 HRL
      go_wp2_with fail
      refine ⟨⟨k + 1, by omega, by rw [HXR.out], v', pre', cur', Bm', Hid.mk ?_, Hid.mk (by rw [HSH2.out, HSH.out, HFO.out]), Hid.mk (HB3.out.setCell (p := ⟨w.heap.size + 1 + 1 + 1, 0, none⟩) (Nat.le_refl _) _)⟩, HME.out⟩
      have h := HR2.out.tick ((k : Int) + 1)
      rw [show (((k + 1 : Nat) : Int)) = (k : Int) + 1 by omega]
      exact h
    · have e : k = n := by omega
      subst e
      have hd : l.drop k = [] := List.drop_eq_nil_of_le (by rw [HLN.out]; exact Nat.le_refl _)
      have ht : l.take k = l := List.take_of_length_le (by rw [HLN.out]; exact Nat.le_refl _)
      have hX : bA (lnsT (l.drop k)) = (⟨#[]⟩ : ByteArray) := by rw [hd]; rfl
      rw [hX]
      rw [ht] at HSH
      obtain ⟨va, vn, vc, hvs⟩ := owns_slice HR.out.own
      subst hvs
      obtain ⟨hbw, h1, h2, h3⟩ := HTL.out _ HB.out
      have c1 := cell_of_row _ _ 1 _ _ _ HR.out.rd
      have r0 := cell_of_row _ _ 0 _ _ _ h1
      have r1 := cell_of_row _ _ 0 _ _ _ h2
      have r2 := cell_of_row _ _ 0 _ _ _ h3
      have f0 := frozen_of_row _ _ 0 _ _ h1
      have f1 := frozen_of_row _ _ 0 _ _ h2
      have f2 := frozen_of_row _ _ 0 _ _ h3
      simp only [List.getElem?_toArray, List.getElem?_cons_zero, List.getElem?_cons_succ] at c1 r0 r1 r2
      obtain ⟨WF, hWF⟩ : ∃ WF, WF = (((wr.setCell ⟨w.heap.size, 0, none⟩ (.slice va vn vc)).setCell ⟨w.heap.size + 1, 0, none⟩ (.int .i64 0)).setCell ⟨w.heap.size + 1 + 1, 0, none⟩ (.bool true)) := ⟨_, rfl⟩
      have s1 := heap_setCell_same wr w.heap.size 0 _ _ (.slice va vn vc) h1
      have s2 := (heap_setCell_other (wr.setCell ⟨w.heap.size, 0, none⟩ (.slice va vn vc)) ⟨w.heap.size + 1, 0, none⟩ w.heap.size (.int .i64 0) (by simp)).trans s1
      have s3 := (heap_setCell_other ((wr.setCell ⟨w.heap.size, 0, none⟩ (.slice va vn vc)).setCell ⟨w.heap.size + 1, 0, none⟩ (.int .i64 0)) ⟨w.heap.size + 1 + 1, 0, none⟩ w.heap.size (.bool true) (by simp; omega)).trans s2
      have t0 := (heap_setCell_other wr ⟨w.heap.size, 0, none⟩ (w.heap.size + 1) (.slice va vn vc) (by simp)).trans h2
      have t1 := heap_setCell_same (wr.setCell ⟨w.heap.size, 0, none⟩ (.slice va vn vc)) (w.heap.size + 1) 0 _ _ (.int .i64 0) t0
      have t2 := (heap_setCell_other ((wr.setCell ⟨w.heap.size, 0, none⟩ (.slice va vn vc)).setCell ⟨w.heap.size + 1, 0, none⟩ (.int .i64 0)) ⟨w.heap.size + 1 + 1, 0, none⟩ (w.heap.size + 1) (.bool true) (by simp)).trans t1
      have v0 := (heap_setCell_other (wr.setCell ⟨w.heap.size, 0, none⟩ (.slice va vn vc)) ⟨w.heap.size + 1, 0, none⟩ (w.heap.size + 1 + 1) (.int .i64 0) (by simp)).trans ((heap_setCell_other wr ⟨w.heap.size, 0, none⟩ (w.heap.size + 1 + 1) (.slice va vn vc) (by simp; omega)).trans h3)
      have v1 := heap_setCell_same ((wr.setCell ⟨w.heap.size, 0, none⟩ (.slice va vn vc)).setCell ⟨w.heap.size + 1, 0, none⟩ (.int .i64 0)) (w.heap.size + 1 + 1) 0 _ _ (.bool true) v0
      rw [← hWF] at s3 t2 v1
      have k0 : WF.cell? ⟨w.heap.size, 0, none⟩ = some (.slice va vn vc) := (cell_of_row _ _ 0 _ _ _ s3).trans rfl
      have k1 : WF.cell? ⟨w.heap.size + 1, 0, none⟩ = some (.int .i64 0) := (cell_of_row _ _ 0 _ _ _ t2).trans rfl
      have k2 : WF.cell? ⟨w.heap.size + 1 + 1, 0, none⟩ = some (.bool true) := (cell_of_row _ _ 0 _ _ _ v1).trans rfl
      have HBW : Hid (Below w.heap.size w WF) := Hid.mk (by
        rw [hWF]
        exact ((hbw.setCell (p := ⟨w.heap.size, 0, none⟩) (Nat.le_refl _) _).setCell (p := ⟨w.heap.size + 1, 0, none⟩) (Nat.le_add_right _ _) _).setCell (p := ⟨w.heap.size + 1 + 1, 0, none⟩) (by show w.heap.size ≤ w.heap.size + 1 + 1; omega) _)
      have HRF : Hid (RdS WF (w.heap.size + 3) (w.heap.size + 3) Bm k (.slice va vn vc) pre cur) := Hid.mk (HR.out.low (by rw [hWF]; simp) (fun q hq => by
        rw [hWF]
        refine (heap_setCell_other _ _ q _ (by show q ≠ w.heap.size + 1 + 1; omega)).trans ((heap_setCell_other _ _ q _ (by show q ≠ w.heap.size + 1; omega)).trans (heap_setCell_other _ _ q _ (by show q ≠ w.heap.size; omega)))))
      clear hd ht hX h1 h2 h3 hbw s1 s2 s3 t0 t1 t2 v0 v1
      go_wp2_with fail
      rw [← hWF]
      clear hWF
      refine leaves_cons (f := 111) (args := #[.pointer (some ⟨w.heap.size, 0, none⟩), .pointer (some ⟨w.heap.size + 1, 0, none⟩), .pointer (some ⟨w.heap.size + 1 + 1, 0, none⟩)]) (by simp) (by simp [go_sem]) ?_
      refine (read1_idle _ _ _ _).mono ?_
      rintro e u' w'' ⟨rfl, rfl, rfl⟩
      simp [Leaves, settle, results, Tryz.results69, go_sem, k0, k1, k2]
      exact ⟨_, _, ⟨_, HRF⟩, HSH, HBW⟩
end Bw
end Go.Proofs.YtlnkhlifkooohaaGreatDoor
