/- What a Replacer of 0, 1, 1, 0 answers of a row of bits, from its making on: each bit is the other one. -/
import Derived.Test.YtcoemhndpmdccaaDoorRepl3
namespace Go.Proofs.YtcoemhndpmdccaaDoor
open Go.ChangeShapes Go.WideShapes Go.ChangeAt Go.RowKit
namespace Bw
open Bm

theorem rep_lt {w : World} {B : Nat} {d st : Int} {x y : Value} (h : RepBlk w B d st x y) : B < w.heap.size := by
  unfold RepBlk at h
  rcases Nat.lt_or_ge B w.heap.size with h' | h'
  · exact h'
  · rw [Array.getElem?_eq_none h'] at h; cases h
theorem rep_cells {w : World} {B : Nat} {d st : Int} {x y : Value} (h : RepBlk w B d st x y) :
    w.cell? ⟨B, 0, none⟩ = some (.int .u32 d) ∧ w.cell? ⟨B, 1, none⟩ = some (.int .i32 st) ∧ w.cell? ⟨B, 3, none⟩ = some x ∧ w.cell? ⟨B, 4, none⟩ = some y ∧ ∀ i, w.frozen? ⟨B, i, none⟩ = false := by
  unfold RepBlk at h
  exact ⟨cell_of_row w B 0 _ _ _ h, cell_of_row w B 1 _ _ _ h, cell_of_row w B 3 _ _ _ h, cell_of_row w B 4 _ _ _ h, fun i => frozen_of_row w B i _ _ h⟩
theorem rep_lock {w : World} {B : Nat} {d st : Int} {x y : Value} (h : RepBlk w B d st x y) (v : Int) : RepBlk (w.setCell ⟨B, 1, none⟩ (.int .i32 v)) B d v x y := by
  unfold RepBlk at h ⊢
  rw [heap_setCell_same w B 1 _ _ _ h]; rfl
theorem rep_done {w : World} {B : Nat} {d st : Int} {x y : Value} (h : RepBlk w B d st x y) (v : Int) : RepBlk (w.setCell ⟨B, 0, none⟩ (.int .u32 v)) B v st x y := by
  unfold RepBlk at h ⊢
  rw [heap_setCell_same w B 0 _ _ _ h]; rfl
theorem tab_set {w : World} {T B i : Nat} {v : Value} (h : TabAt w T) (hn : T ≠ B) : TabAt (w.setCell ⟨B, i, none⟩ v) T :=
  ⟨by rw [World.cell?_setCell_other (h := by intro x; cases x; exact hn rfl)]; exact h.1, by rw [World.cell?_setCell_other (h := by intro x; cases x; exact hn rfl)]; exact h.2⟩

set_option maxRecDepth 100000 in
set_option maxHeartbeats 4000000 in
theorem slow_any (B S cap : Nat) (w : World) (hB : RepBlk w B 0 0 .nilIface (.slice (some ⟨S, 0, none⟩) 4 cap)) (ho : OldNew w S) (hne : S ≠ B) :
    Calls Tryd.prog 56 #[.pointer (some ⟨B, 0, none⟩), .func (.func 35) #[.pointer (some ⟨B, 0, none⟩)] #[]] w fun e w' => e = .returned (.tuple #[]) ∧ (∃ T, RepBlk w' B 1 0 (.iface 129 (.pointer (some ⟨T, 0, none⟩))) (.slice none 0 0) ∧ TabAt w' T ∧ T ≠ B) ∧ Below B w w' := by
  obtain ⟨c0, c1, c3, c4, cf⟩ := rep_cells hB
  have hB1 := rep_lock hB 1
  have ho1 : OldNew (w.setCell ⟨B, 1, none⟩ (.int .i32 1)) S := ho.kept (heap_setCell_other w ⟨B, 1, none⟩ S _ hne)
  obtain ⟨k0, k1, k3, k4, kf⟩ := rep_cells hB1
  have hl := run_call_load (P := Tryd.prog) Tryd.func71 (by kernel_rfl) (by kernel_rfl) (by kernel_rfl) .u32 (by kernel_rfl) k0
  have hnot : ∀ (x : Bool) (w : World), (Op.unary .not (.bool x)).run Tryd.prog w = .ok (.bool (!x)) w := fun _ _ => rfl
  have hbuild := buildOnce_any B S cap 0 1 _ hB1 ho1
  have HBu := Hid.mk hbuild
  have HB := Hid.mk hB
  have hf1 := cf 1
  clear hbuild hB k3 k4 kf c3 c4 cf ho1 hB1
  go_enter_defers Tryd.func56, Tryd.ntmps56
  go_wp2_with (go_at_call 72; refine (lock_free ⟨B, 1, none⟩ _ c1 hf1).mono ?_; rintro e w' ⟨rfl, rfl⟩)
  go_wp2_with (go_at_call 55; go_in)
  refine HBu.out.mono ?_
  rintro e w2 ⟨rfl, ⟨T, hR2, hT2, hTB⟩, hb2⟩
  obtain ⟨m0, m1, -, -, mf⟩ := rep_cells hR2
  have hR3 := rep_done hR2 1
  have hR4 := rep_lock (w := (w2.setCell ⟨B, 0, none⟩ (.int .u32 1)).drew) hR3 0
  obtain ⟨-, p1, -, -, pf⟩ := rep_cells hR3
  have hT4 : TabAt ((w2.setCell ⟨B, 0, none⟩ (.int .u32 1)).drew.setCell ⟨B, 1, none⟩ (.int .i32 0)) T := tab_set (w := (w2.setCell ⟨B, 0, none⟩ (.int .u32 1)).drew) (tab_set hT2 hTB) hTB
  have hb4 : Below B w ((w2.setCell ⟨B, 0, none⟩ (.int .u32 1)).drew.setCell ⟨B, 1, none⟩ (.int .i32 0)) :=
    (((((Below.refl B w).setCell (p := ⟨B, 1, none⟩) (Nat.le_refl _) (.int .i32 1)).trans hb2).setCell (p := ⟨B, 0, none⟩) (Nat.le_refl _) (.int .u32 1)).drew).setCell (p := ⟨B, 1, none⟩) (Nat.le_refl _) (.int .i32 0)
  have HR4 := Hid.mk hR4
  have HT4 := Hid.mk hT4
  have HB4 := Hid.mk hb4
  clear hR4 hT4 hb4 hR2 hT2 hb2 HBu HB hl k0 k1 c0 c1 ho
  go_wp2_with fail
  refine leaves_cons (f := 74) (args := #[.pointer (some ⟨B, 0, none⟩), .bool true]) (by simp) (by simp [go_sem]) ?_
  refine (store_deferred ⟨B, 0, none⟩ (.int .u32 0) .returning _ m0 (mf 0)).mono ?_
  rintro e u' w'' ⟨rfl, rfl, rfl⟩
  refine leaves_cons (f := 73) (args := #[.pointer (some ⟨B, 1, none⟩)]) (by simp [settle]) (by simp [go_sem]) ?_
  refine (unlock_deferred ⟨B, 1, none⟩ _ (w2.setCell ⟨B, 0, none⟩ (.int .u32 1)).drew p1 (pf 1)).mono ?_
  rintro e u' w'' ⟨rfl, rfl, rfl⟩
  have hfin : (∃ T, RepBlk ((w2.setCell ⟨B, 0, none⟩ (.int .u32 1)).drew.setCell ⟨B, 1, none⟩ (.int .i32 0)) B 1 0 (.iface 129 (.pointer (some ⟨T, 0, none⟩))) (.slice none 0 0) ∧ TabAt ((w2.setCell ⟨B, 0, none⟩ (.int .u32 1)).drew.setCell ⟨B, 1, none⟩ (.int .i32 0)) T ∧ T ≠ B) ∧ Below B w ((w2.setCell ⟨B, 0, none⟩ (.int .u32 1)).drew.setCell ⟨B, 1, none⟩ (.int .i32 0)) := ⟨⟨T, HR4.out, HT4.out, hTB⟩, HB4.out⟩
  exact ⟨_, results_none rfl _ _ _, rfl, hfin⟩

set_option maxRecDepth 100000 in
set_option maxHeartbeats 4000000 in
theorem do_any (B S cap : Nat) (w : World) (hB : RepBlk w B 0 0 .nilIface (.slice (some ⟨S, 0, none⟩) 4 cap)) (ho : OldNew w S) (hne : S ≠ B) :
    Calls Tryd.prog 34 #[.pointer (some ⟨B, 0, none⟩), .func (.func 35) #[.pointer (some ⟨B, 0, none⟩)] #[]] w fun e w' => e = .returned (.tuple #[]) ∧ (∃ T, RepBlk w' B 1 0 (.iface 129 (.pointer (some ⟨T, 0, none⟩))) (.slice none 0 0) ∧ TabAt w' T ∧ T ≠ B) ∧ Below B w w' := by
  obtain ⟨c0, c1, c3, c4, cf⟩ := rep_cells hB
  have hl := run_call_load (P := Tryd.prog) Tryd.func71 (by kernel_rfl) (by kernel_rfl) (by kernel_rfl) .u32 (by kernel_rfl) c0
  have hnot : ∀ (x : Bool) (w : World), (Op.unary .not (.bool x)).run Tryd.prog w = .ok (.bool (!x)) w := fun _ _ => rfl
  have hslow := slow_any B S cap w hB ho hne
  have HS := Hid.mk hslow
  clear hslow hB ho c1 c3 c4 cf
  go_enter Tryd.func34, Tryd.ntmps34
  go_wp2_with (go_at_call 55; go_in)
  refine HS.out.mono ?_
  rintro e w2 ⟨rfl, hT, hb2⟩
  have HT := Hid.mk hT
  clear hT HS hl c0
  go_wp2_with fail
  go_end0
  exact ⟨rfl, HT.out, hb2⟩

set_option maxRecDepth 100000 in
set_option maxHeartbeats 4000000 in
theorem replace_any (B S cap : Nat) (s : ByteArray) (w : World) (hB : RepBlk w B 0 0 .nilIface (.slice (some ⟨S, 0, none⟩) 4 cap)) (ho : OldNew w S) (hne : S ≠ B) (hs : s.size ≤ 1000) (hrow : rowB s.data.toList = true) :
    Calls Tryd.prog 21 #[.pointer (some ⟨B, 0, none⟩), .string s] w fun e w' => e = .returned (.string ⟨(s.data.toList.map oth).toArray⟩) ∧ Below B w w' := by
  have hdo := do_any B S cap w hB ho hne
  have HD := Hid.mk hdo
  have HR := Hid.mk hrow
  have hBl := rep_lt hB
  have hmf : ∀ (fn : Fn) (first cap : Array Value) (w : World), (Instr.makeFunc fn first cap).run Tryd.prog w = .ok (.func fn first cap) w := fun _ _ _ _ => rfl
  clear hdo hB ho hrow
  go_enter Tryd.func21, Tryd.ntmps21
  go_wp2_with fail
  refine HD.out.mono ?_
  rintro e w2 ⟨rfl, ⟨T, hR2, hT2, hTB⟩, hb2⟩
  obtain ⟨-, -, m3, -, -⟩ := rep_cells hR2
  have HT2 := Hid.mk hT2
  have hmeth : ∀ W, (method 302 129 (Value.pointer (some ⟨T, 0, none⟩)) "Replace").run Tryd.prog W = .ok (140, .pointer (some ⟨T, 0, none⟩)) W := fun _ => by kernel_rfl
  clear hT2 HD hR2
  go_wp2_with fail
  refine (byteRepl T s w2 hs HR.out HT2.out).mono ?_
  rintro e w3 ⟨rfl, hb3⟩
  have hb4 : Below B w w3 := hb2.trans (hb3.mono (Nat.le_trans (Nat.le_of_lt hBl) hb2.size))
  clear hmeth hb3 hb2 m3
  go_wp2_with fail
  go_ret
  exact ⟨rfl, hb4⟩

theorem own4 {w : World} {base : Nat} {e : TypeId} {v : Value} {xs : List Value} (h : w.ownsRow base e 1 v (0 + 4) xs) : ∃ S cp, v = .slice (some ⟨S, 0, none⟩) 4 cp := by
  rcases h.2 with ⟨_, h4⟩ | ⟨g, cap, cur, hv, _⟩
  · omega
  · exact ⟨g, cap, by simpa using hv⟩

theorem info_str : (Tryd.prog.info? 9).map (fun i => (i.zero, i.size, i.bytes)) = some (some (.string ⟨#[]⟩), 1, 16) := by kernel_rfl

set_option maxRecDepth 100000 in
set_option maxHeartbeats 4000000 in
theorem newReplacer_any (a : Nat) (c : Nat) (w : World) (ho : OldNew w a) :
    Calls Tryd.prog 20 #[.slice (some ⟨a, 0, none⟩) 4 c] w fun e w' => ∃ B S cap, e = .returned (.pointer (some ⟨B, 0, none⟩)) ∧ w.heap.size ≤ B ∧ RepBlk w' B 0 0 .nilIface (.slice (some ⟨S, 0, none⟩) 4 cap) ∧ OldNew w' S ∧ S ≠ B ∧ Below w.heap.size w w' := by
  obtain ⟨o0, o1, o2, o3⟩ := ho
  obtain ⟨i0, hi, hz0, hz1, hz2⟩ := info_parts info_str
  go_enter Tryd.func20, Tryd.ntmps20
  go_wp2_with (at_builtin; refine wpList_append_own _ rfl (.const (.slice none 0 0)) (.tmp 8) 64 rfl w.heap.size 9 i0 (.string ⟨#[]⟩) 1 16 Tryd.underlying64 hi hz0 hz1 hz2 rfl (by decide) (.slice none 0 0) 0 [] rfl (World.ownsRow_nil _ _ _ _) ⟨a, 0, none⟩ 4 c [.string ⟨#[48]⟩, .string ⟨#[49]⟩, .string ⟨#[49]⟩, .string ⟨#[48]⟩] rfl rfl (by intro q u hq; match q, hq with | 0, hq => (simp at hq; subst hq; rw [Addr.add_lit]; exact o0) | 1, hq => (simp at hq; subst hq; rw [Addr.add_lit]; exact o1) | 2, hq => (simp at hq; subst hq; rw [Addr.add_lit]; exact o2) | 3, hq => (simp at hq; subst hq; rw [Addr.add_lit]; exact o3)) (by intro u hu; simp at hu; rcases hu with rfl | rfl | rfl | rfl <;> rfl) (by unfold maxLen; omega) (by omega) (Nat.le_refl _) ?_; intro v' w1 hown' hgrow hnn; obtain ⟨S, cp, rfl⟩ := own4 hown'; clear hnn)
  have hS := (hown'.lt S rfl)
  have q0 : w1.cell? ⟨S, 0, none⟩ = _ := hown'.cellAt 0 (by omega)
  have q1 : w1.cell? ⟨S, 1, none⟩ = _ := hown'.cellAt 1 (by omega)
  have q2 : w1.cell? ⟨S, 2, none⟩ = _ := hown'.cellAt 2 (by omega)
  have q3 : w1.cell? ⟨S, 3, none⟩ = _ := hown'.cellAt 3 (by omega)
  have hon : OldNew w1 S := ⟨q0, q1, q2, q3⟩
  have hb1 : Below w.heap.size w w1 := Below.grown (Below.refl _ _) hgrow (Nat.le_refl _) (fun q hq => by cases hq)
  have HON := Hid.mk hon
  clear hown' hgrow q0 q1 q2 q3 hon o0 o1 o2 o3 hi hz0 hz1 hz2
  have HR : Hid (RepBlk (w1.alloc (.cells #[.int .u32 0, .int .i32 0, .int .u32 0, .nilIface, .slice (some ⟨S, 0, none⟩) 4 cp] 80)) w1.heap.size 0 0 .nilIface (.slice (some ⟨S, 0, none⟩) 4 cp)) := heap_alloc_new w1 _
  have HO2 := Hid.mk (HON.out.kept (w' := w1.alloc (.cells #[.int .u32 0, .int .i32 0, .int .u32 0, .nilIface, .slice (some ⟨S, 0, none⟩) 4 cp] 80)) (Below.heap_alloc w1 _ S hS.2))
  have HBB := Hid.mk (hb1.alloc hb1.size (.cells #[.int .u32 0, .int .i32 0, .int .u32 0, .nilIface, .slice (some ⟨S, 0, none⟩) 4 cp] 80))
  go_ret
  exact ⟨w1.heap.size, S, cp, rfl, hb1.size, HR.out, HO2.out, by omega, HBB.out⟩
end Bw
end Go.Proofs.YtcoemhndpmdccaaDoor
