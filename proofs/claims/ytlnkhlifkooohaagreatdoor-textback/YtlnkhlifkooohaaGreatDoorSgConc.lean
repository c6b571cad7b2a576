/- Rows of signals of one's own: slices.Grow and slices.Concat at signals; parts of a row. -/
import Derived.Test.YtlnkhlifkooohaaGreatDoorMsgRow
import Derived.Lib.AppendZeros
import Derived.Deep.OwnRows
namespace Go.Proofs.YtlnkhlifkooohaaGreatDoor
open Go.ChangeShapes Go.WideShapes Go.ChangeAt Go.RowKit
namespace Bw
open Sm
theorem info_sg : (Tryz.prog.info? 42).map (fun i => (i.zero, i.size, i.bytes)) = some (some (.agg #[.string ⟨#[]⟩, .int .i64 0, .int .i64 0, .bool false, .bool false, .int .i64 0, .int .i64 0, .int .i64 0, .int .i64 0]), 9, 72) := by kernel_rfl
/-- signals as cells -/
def sgsC (l : List Sig) : List Value := l.flatMap sgCl
theorem sgsC_cons (x : Sig) (l : List Sig) : sgsC (x :: l) = sgCl x ++ sgsC l := by simp [sgsC]
theorem sgsC_append (a b : List Sig) : sgsC (a ++ b) = sgsC a ++ sgsC b := by simp [sgsC]
theorem sgsC_len : ∀ l : List Sig, (sgsC l).length = l.length * 9
  | [] => rfl
  | x :: l => by rw [sgsC_cons, List.length_append, sgsC_len l]; simp [sgCl]; omega
theorem sgsC_at : ∀ (l : List Sig) (i : Nat) (hi : i < l.length) (k : Nat), k < 9 → (sgsC l)[i * 9 + k]? = (sgCl l[i])[k]?
  | [], i, hi, _, _ => absurd hi (Nat.not_lt_zero _)
  | x :: l, 0, _, k, hk => by
    rw [sgsC_cons, List.getElem?_append_left (by simp [sgCl]; omega)]
    simp
  | x :: l, i + 1, hi, k, hk => by
    have := sgsC_at l i (by simpa using hi) k hk
    rw [sgsC_cons, List.getElem?_append_right (by simp [sgCl]; omega)]
    rw [show (i + 1) * 9 + k - (sgCl x).length = i * 9 + k by simp [sgCl]; omega, this]
    simp
theorem sgsC_one (l : List Sig) : ∀ u ∈ sgsC l, u.oneCell' = true := by
  intro u hu
  unfold sgsC at hu
  rw [List.mem_flatMap] at hu
  obtain ⟨x, _, hx⟩ := hu
  unfold sgCl at hx
  simp only [List.mem_cons, List.not_mem_nil, or_false] at hx
  rcases hx with rfl | rfl | rfl | rfl | rfl | rfl | rfl | rfl | rfl <;> rfl
theorem sgs_news {w : World} {y : Addr} {n cap : Nat} {l : List Sig} (h : IsSigs w (some y) n cap l) : ∀ j u, (sgsC l)[j]? = some u → w.cell? (y.add j) = some u := by
  intro j u hj
  have hlt : j < (sgsC l).length := by
    rcases Nat.lt_or_ge j (sgsC l).length with h1 | h1
    · exact h1
    · rw [List.getElem?_eq_none h1] at hj
      cases hj
  rw [sgsC_len] at hlt
  have h9 : j / 9 < l.length := by omega
  have e : j = j / 9 * 9 + j % 9 := by omega
  have h1 := h.cell y rfl (j / 9) h9 (j % 9) (by omega)
  have h2 := sgsC_at l (j / 9) h9 (j % 9) (by omega)
  rw [← e] at h1 h2
  rw [h1, ← h2, hj]
/-- a row of signals of one's own is a row -/
theorem sgs_own {w : World} {base : Nat} {u : Value} {n : Nat} {l : List Sig} (h : w.ownsRow base 42 9 u n (sgsC l)) (hn : l.length = n) : ∃ a c, u = .slice a n c ∧ IsSigs w a n c l := by
  subst hn
  have h0 := h
  obtain ⟨hl, h2⟩ := h
  rcases h2 with ⟨h3, h4⟩ | ⟨g', cap, cur, hv, hg, hh, hc, hm, hsz, htk⟩
  · refine ⟨none, 0, ?_, ?_⟩
    · rw [h3, h4]
    · exact ⟨rfl, by omega, Nat.zero_le _, fun _ => h4, fun _ e => by cases e⟩
  · refine ⟨some ⟨g', 0, none⟩, cap, hv, rfl, hc, hm, (fun e => by cases e), fun x hx i hi k hk => ?_⟩
    cases hx
    have h5 : i * 9 + k < (sgsC l).length := by rw [sgsC_len]; omega
    have h6 := sgsC_at l i hi k hk
    rw [← h6, List.getElem?_eq_getElem h5]
    subst hv
    exact h0.cells rfl _ _ (List.getElem?_eq_getElem h5)
theorem elem_sg : Tryz.prog.elem 22 = 42 := by kernel_rfl
theorem size_sg (W : World) : (sizeOf 42).run Tryz.prog W = .ok 9 W := by simp [go_sem]
theorem und_sg : Tryz.prog.underlying 22 = some (.slice (Tryz.prog.elem 22)) := by rw [elem_sg]; exact Tryz.underlying22
theorem slice_hS (x : Addr) (n c k : Nat) (hk : k ≤ c) (W : World) : (Instr.slice 22 (.slice (some x) n c) none (some (.int .i64 (k : Int))) none).run Tryz.prog W = .ok (.slice (some x) k c) W := by
  rw [run_slice_h (ht := und_sg) (h0 := by omega) (h2 := by omega), elem_sg, size_sg]
  simp [Result.andThen, sliced]
  intro _
  simp [Addr.add]
theorem slice_lS (x : Addr) (n c k : Nat) (hk : k < n) (W : World) : (Instr.slice 22 (.slice (some x) n c) (some (.int .i64 ((k : Int) + 1))) none none).run Tryz.prog W = .ok (.slice (some (if c = k + 1 then x else x.add ((k + 1) * 9))) (n - (k + 1)) (c - (k + 1))) W := by
  rw [run_slice_l (ht := und_sg) (h0 := by omega) (h1 := by omega), elem_sg, size_sg]
  have e : ((k : Int) + 1).toNat = k + 1 := by omega
  simp only [Result.andThen, sliced, e]
  split <;> rfl
theorem sigs_drop {w : World} {x : Addr} {n c : Nat} {l : List Sig} (h : IsSigs w (some x) n c l) {k : Nat} (hk : k ≤ n) : IsSigs w (some (if c = k then x else x.add (k * 9))) (n - k) (c - k) (l.drop k) := by
  have hl := h.len
  have hle := h.le
  have hm := h.max
  refine ⟨by rw [List.length_drop]; omega, by omega, by omega, (fun h => by cases h), fun y hy i hi q hq => ?_⟩
  rw [List.length_drop] at hi
  rw [if_neg (by omega)] at hy
  cases hy
  have ea : ∀ j, (x.add (k * 9)).add j = x.add (k * 9 + j) := fun j => by
    first | exact Addr.add_add _ _ _ | (unfold Addr.add; simp; omega)
  have h1 := h.cell x rfl (k + i) (by omega) q hq
  rw [ea, show k * 9 + (i * 9 + q) = (k + i) * 9 + q by omega, h1, List.getElem_drop]
set_option maxHeartbeats 4000000 in
set_option maxRecDepth 100000 in
theorem growS_zero (w : World) :
    Calls Tryz.prog 88 #[.slice none 0 0, .int .i64 0] w fun e w' => e = .returned (.slice none 0 0) ∧ w' = w := by
  go_enter Tryz.func88, Tryz.ntmps88
  go_wp2_with fail
  go_ret
  exact ⟨rfl, rfl⟩
set_option maxHeartbeats 4000000 in
set_option maxRecDepth 100000 in
theorem growS_pos (n : Nat) (w : World) (h0 : 0 < n) (h48 : n ≤ 1000) :
    Calls Tryz.prog 88 #[.slice none 0 0, .int .i64 n] w fun e w' => ∃ C cur, e = .returned (.slice (some ⟨w.heap.size, 0, none⟩) 0 C) ∧
      w'.heap[w.heap.size]? = some (.cells cur 42 (0, 0)) ∧ cur.size = C * 9 ∧ n ≤ C ∧ C ≤ maxLen ∧ Below w.heap.size w w' := by
  obtain ⟨i0, hi, hz0, hz1, hz2⟩ := info_parts info_sg
  have happ := Lib.run_append_nil_zeros (P := Tryz.prog) w 22 3 22 42 i0 _ .i64 .i64 Tryz.underlying22 Tryz.underlying3 hi hz0 n h0 (by omega) (by omega) (by rw [hz2]; omega)
  have hge := grownCap_ge w n 0 42
  have hle := grownCap_le_maxLen w n 0 42 (by unfold maxLen; omega)
  generalize grownCap w n 0 42 = C at *
  obtain ⟨Z, hZ⟩ : ∃ Z, Z = (Builtin.zeroCells (Value.agg #[.string ⟨#[]⟩, .int .i64 0, .int .i64 0, .bool false, .bool false, .int .i64 0, .int .i64 0, .int .i64 0, .int .i64 0]).cells n ++ Builtin.zeroCells (Value.agg #[.string ⟨#[]⟩, .int .i64 0, .int .i64 0, .bool false, .bool false, .int .i64 0, .int .i64 0, .int .i64 0, .int .i64 0]).cells (C - n)) := ⟨_, rfl⟩
  rw [← hZ] at happ
  have hZs : Z.size = C * 9 := by rw [hZ]; simp [size_zeroCells, Value.cells]; omega
  have hs0 : ∀ W, (Instr.slice 22 (.slice (some ⟨w.heap.size, 0, none⟩) n C) none (some (.int .i64 0)) none).run Tryz.prog W = .ok (.slice (some ⟨w.heap.size, 0, none⟩) 0 C) W := fun W => slice_hS ⟨w.heap.size, 0, none⟩ n C 0 (Nat.zero_le _) W
  have HH := Hid.mk (heap_alloc_new w.drew (.cells Z 42))
  have HB : Hid (Below w.heap.size w (w.drew.alloc (.cells Z 42))) := Hid.mk ((show Below w.heap.size w w.drew from ⟨rfl, rfl, rfl, Nat.le_refl _, fun _ _ => rfl⟩).alloc (Nat.le_refl _) _)
  have hn' : (0 : Int) < (n : Int) := by omega
  have hn2 : (n : Int) ≤ 281474976710656 := by omega
  have HAP := Hid.mk happ
  clear happ hZ
  go_enter Tryz.func88, Tryz.ntmps88
  go_wp2_with (at_builtin; refine Lib.wpList_append_run _ rfl _ _ _ _ rfl _ _ rfl rfl _ _ HAP.out ?_)
  go_ret
  exact ⟨C, Z, rfl, HH.out, hZs, hge, hle, HB.out⟩
theorem growS_any (n : Nat) (w : World) (h48 : n ≤ 1000) :
    Calls Tryz.prog 88 #[.slice none 0 0, .int .i64 n] w fun e w' => ∃ u, e = .returned u ∧ Hid (w'.ownsRow w.heap.size 42 9 u 0 (sgsC [])) ∧ Below w.heap.size w w' := by
  rcases Nat.eq_zero_or_pos n with h | h
  · subst h
    refine (growS_zero w).mono ?_
    rintro e w' ⟨rfl, rfl⟩
    exact ⟨_, rfl, Hid.mk ⟨rfl, .inl ⟨rfl, rfl⟩⟩, Below.refl _ _⟩
  · refine (growS_pos n w h h48).mono ?_
    rintro e w' ⟨C, cur, rfl, hh, hcs, hnC, hC, hb⟩
    exact ⟨_, rfl, Hid.mk ⟨rfl, .inr ⟨_, C, cur, rfl, Nat.le_refl _, hh, Nat.zero_le _, hC, hcs, by simp [sgsC]⟩⟩, hb⟩
structure TwoSg (w : World) (g : Nat) (x : Addr) (na ca : Nat) (y : Addr) (nb cb : Nat) : Prop where
  c0 : w.cell? ⟨g, 0, none⟩ = some (.slice (some x) na ca)
  c1 : w.cell? ⟨g, 1, none⟩ = some (.slice (some y) nb cb)
theorem TwoSg.kept {w w' : World} {g : Nat} {x : Addr} {na ca : Nat} {y : Addr} {nb cb : Nat} (h : TwoSg w g x na ca y nb cb) (hb : Below w.heap.size w w') : TwoSg w' g x na ca y nb cb := ⟨cell_kept hb h.c0, cell_kept hb h.c1⟩
theorem own_below {w0 w w' : World} {base : Nat} {e : TypeId} {size : Nat} {v : Value} {n : Nat} {xs : List Value} (h : Below w0.heap.size w0 w) (ho : w.ownsRow w0.heap.size e size v n xs) (hg : w.grownBy w' v.ownBlock) (_ : base = w0.heap.size) : Below w0.heap.size w0 w' :=
  Below.grown h hg h.size (fun q hq => by
    rcases ho.2 with ⟨h1, _⟩ | ⟨g, cap, cur, hv, hb, _⟩
    · subst h1; cases hq
    · subst hv
      have e : g = q := by simpa [Value.ownBlock] using hq
      omega)
set_option maxHeartbeats 8000000 in
set_option maxRecDepth 100000 in
theorem concatS_any (g : Nat) (x : Addr) (na ca : Nat) (la : List Sig) (y : Addr) (nb cb : Nat) (lb : List Sig) (w : World) (hT : TwoSg w g x na ca y nb cb) (hF : IsSigs w (some x) na ca la) (hFb : IsSigs w (some y) nb cb lb) (h48 : na + nb ≤ 1000) :
    Calls Tryz.prog 39 #[.slice (some ⟨g, 0, none⟩) 2 2] w fun e w' => ∃ u, e = .returned u ∧ Hid (w'.ownsRow w.heap.size 42 9 u (na + nb) (sgsC (la ++ lb))) ∧ Below w.heap.size w w' := by
  obtain ⟨i0, hi, hz0, hz1, hz2⟩ := info_parts info_sg
  have HG := Hid.mk (growS_any (na + nb) w h48)
  rw [show (((na + nb : Nat)) : Int) = (na : Int) + (nb : Int) by omega] at HG
  have HT := Hid.mk hT
  have HF := Hid.mk hF
  have HFb := Hid.mk hFb
  have HL : Hid (la.length = na ∧ lb.length = nb) := Hid.mk ⟨hF.len, hFb.len⟩
  have hna : (na : Int) ≤ 1000 := by omega
  have hnb : (nb : Int) ≤ 1000 := by omega
  have HI := Hid.mk hi
  have HZ0 := Hid.mk hz0
  have HZ1 := Hid.mk hz1
  have HZ2 := Hid.mk hz2
  clear hT hF hFb hi hz0 hz1 hz2
  go_enter Tryz.func39, Tryz.ntmps39
  go_wp2_with fail
  go_loopw [3, 11] (fun s i wr => wr = w ∧ ((i = .int .i64 0 ∧ s = .int .i64 0) ∨ (i = .int .i64 1 ∧ s = .int .i64 (na : Int)) ∨ (i = .int .i64 2 ∧ s = .int .i64 ((na : Int) + (nb : Int))))) (fun _ i _ => 2 - (intOf i).toNat)
  case atStart => exact ⟨rfl, .inl ⟨rfl, rfl⟩⟩
  case round =>
    obtain ⟨hwr, ⟨rfl, rfl⟩ | ⟨rfl, rfl⟩ | ⟨rfl, rfl⟩⟩ := hrel
    · subst hwr
      obtain ⟨t0, t1⟩ := HT.out
      go_wp2_with fail
      go_roundw
      case rel => exact ⟨trivial, .inr (.inl ⟨rfl, by simp⟩)⟩
      case measure => simp [intOf]
    · subst hwr
      obtain ⟨t0, t1⟩ := HT.out
      go_wp2_with fail
      go_roundw
      case rel => exact ⟨trivial, .inr (.inr ⟨rfl, rfl⟩)⟩
      case measure => simp [intOf]
    · subst hwr
      go_wp2_with fail
      refine HG.out.mono ?_
      rintro e w1 ⟨u1, rfl, HR1, hb1⟩
      have HB1 := Hid.mk hb1
      clear hb1
      go_wp2_with fail
      obtain ⟨wz, hwz⟩ : ∃ wz, wz = wr := ⟨_, rfl⟩
      rw [← hwz] at HF HFb HT HR1 HB1
      have HWZ := Hid.mk hwz
      clear hwz HG
      go_loopw [6, 27] (fun v i wr => Hid (Below wz.heap.size wz wr) ∧ ((i = .int .i64 0 ∧ Hid (wr.ownsRow wz.heap.size 42 9 v 0 (sgsC []))) ∨ (i = .int .i64 1 ∧ Hid (wr.ownsRow wz.heap.size 42 9 v na (sgsC la))) ∨ (i = .int .i64 2 ∧ Hid (wr.ownsRow wz.heap.size 42 9 v (na + nb) (sgsC (la ++ lb)))))) (fun _ i _ => 2 - (intOf i).toNat)
      case atStart => exact ⟨HB1, .inl ⟨rfl, HR1⟩⟩
      case round =>
        rename_i v0 i0' _
        obtain ⟨HB, ⟨rfl, HR⟩ | ⟨rfl, HR⟩ | ⟨rfl, HR⟩⟩ := hrel
        · obtain ⟨t0, t1⟩ := HT.out.kept HB.out
          have HSZ := Hid.mk HB.out.size
          obtain ⟨v', w', hr5, ho5, hg5, -⟩ := run_append_own (P := Tryz.prog) _ wz.heap.size 22 22 42 i0 _ 9 72 Tryz.underlying22 HI.out HZ0.out HZ1.out HZ2.out rfl (by decide) _ _ _ HR.out x na ca (sgsC la) (by rw [sgsC_len, HL.out.1]) (sgs_news (HF.out.kept HB.out)) (sgsC_one la) (by unfold maxLen; omega) (by omega) HSZ.out
          rw [show sgsC [] ++ sgsC la = sgsC la by simp [sgsC], Nat.zero_add] at ho5
          have HAP := Hid.mk hr5
          have HR5 := Hid.mk ho5
          have HB5 := Hid.mk (own_below HB.out HR.out hg5 rfl)
          clear hr5 ho5 hg5
          go_wp2_with (at_builtin; refine Lib.wpList_append_run _ rfl _ _ _ _ rfl _ _ rfl rfl _ _ HAP.out ?_)
          go_roundw
          case rel => exact ⟨HB5, .inr (.inl ⟨rfl, HR5⟩)⟩
          case measure => simp [intOf]
        · obtain ⟨t0, t1⟩ := HT.out.kept HB.out
          have HSZ := Hid.mk HB.out.size
          obtain ⟨v', w', hr5, ho5, hg5, -⟩ := run_append_own (P := Tryz.prog) _ wz.heap.size 22 22 42 i0 _ 9 72 Tryz.underlying22 HI.out HZ0.out HZ1.out HZ2.out rfl (by decide) _ _ _ HR.out y nb cb (sgsC lb) (by rw [sgsC_len, HL.out.2]) (sgs_news (HFb.out.kept HB.out)) (sgsC_one lb) (by unfold maxLen; omega) (by omega) HSZ.out
          rw [← sgsC_append] at ho5
          have HAP := Hid.mk hr5
          have HR5 := Hid.mk ho5
          have HB5 := Hid.mk (own_below HB.out HR.out hg5 rfl)
          clear hr5 ho5 hg5
          go_wp2_with (at_builtin; refine Lib.wpList_append_run _ rfl _ _ _ _ rfl _ _ rfl rfl _ _ HAP.out ?_)
          go_roundw
          case rel => exact ⟨HB5, .inr (.inr ⟨rfl, HR5⟩)⟩
          case measure => simp [intOf]
        · go_wp2_with fail
          go_ret
          exact ⟨_, rfl, by rw [← HWZ.out]; exact HR, by rw [← HWZ.out]; exact HB.out⟩
end Bw
end Go.Proofs.YtlnkhlifkooohaaGreatDoor
