/- What delay.longestWait answers. -/
import Derived.Test.YtnhnemmddgofnaaDoorDlWait1
import Derived.Test.YtnhnemmddgofnaaDoorC5
import Derived.Deep.RegionHeld3
import Derived.Deep.DeepCutAuto
namespace Go.Proofs.YtnhnemmddgofnaaDoor
open Go.ChangeShapes Go.WideShapes Go.ChangeAt Go.RowKit Go.Sort
namespace Bw
set_option linter.unusedVariables false
theorem allocS (w : World) (o : Obj) : (w.alloc o).heap.size = w.heap.size + 1 := Array.size_push _
theorem cell_heapD {w w' : World} {a : Addr} (h : w'.heap[a.block]? = w.heap[a.block]?) : w'.cell? a = w.cell? a := by unfold World.cell?; rw [h]
theorem WkOn.set {w : World} {p q : Nat} {x : Tk} (h : WkOn w p q x) {g i : Nat} (hp : p ≠ g) (hq : q ≠ g) (v : Value) : WkOn (w.setCell ⟨g, i, none⟩ v) p q x := by
  have e1 : ∀ (k j : Nat), k ≠ g → (w.setCell ⟨g, i, none⟩ v).cell? ⟨k, j, none⟩ = w.cell? ⟨k, j, none⟩ := fun k j hk => cell_heapD (Below.heap_setCell _ _ _ _ hk)
  exact ⟨by rw [e1 _ _ hp]; exact h.c, by rw [e1 _ _ hq]; exact h.t, by rw [e1 _ _ hq]; exact h.j⟩
theorem TkAt.all {w : World} {g : Nat} {r : Tk} (h : TkAt w g r) : w.cell? ⟨g, 0, none⟩ = some (.int .i64 r.id) ∧ w.cell? ⟨g, 1, none⟩ = some (.int .i64 r.by_) ∧ w.cell? ⟨g, 2, none⟩ = some (.int .i64 r.ev) ∧ w.cell? ⟨g, 3, none⟩ = some (.int .i64 r.la) ∧ w.cell? ⟨g, 4, none⟩ = some (.int .i64 r.ji) := ⟨h.c0, h.c1, h.c2, h.c3, h.c4⟩
theorem drewBD (w : World) : Below w.heap.size w w.drew := ⟨rfl, rfl, rfl, Nat.le_refl _, fun _ _ => rfl⟩
theorem adrewBD (w : World) (o : Obj) : Below w.heap.size w (w.alloc o).drew := bl2 (awD w o) (drewBD _)
theorem boxNew (w : World) (v : Value) (t : TypeId) : BoxAt (w.alloc (.cells #[v] t)) w.heap.size t v := heap_alloc_new w _
theorem store_fnD (w : World) (f : Nat) (lb : Array Value) (t : TypeId) : (store ⟨w.heap.size, 0, none⟩ (.func (.func f) #[] lb)).run Tryd.prog (w.alloc (.cells #[.nilFunc] t)) = .ok () (w.alloc (.cells #[.func (.func f) #[] lb] t)) := by
  rw [run_store _ _ _ _ _ rfl]
  simp [go_sem]
theorem store_fnG {w : World} {g : Nat} {t : TypeId} {v : Value} (h : BoxAt w g t v) (f : Nat) (lb : Array Value) : (store ⟨g, 0, none⟩ (.func (.func f) #[] lb)).run Tryd.prog w = .ok () (w.setCell ⟨g, 0, none⟩ (.func (.func f) #[] lb)) := by
  rw [run_store _ _ _ _ _ rfl]
  have h1 := h.cell
  have h2 := h.frozen
  simp [go_sem, h1, h2]
theorem TkAt.set {w : World} {k : Nat} {x : Tk} (h : TkAt w k x) {g i : Nat} (hk : k ≠ g) (v : Value) : TkAt (w.setCell ⟨g, i, none⟩ v) k x := by
  have e1 : ∀ j, (w.setCell ⟨g, i, none⟩ v).cell? ⟨k, j, none⟩ = w.cell? ⟨k, j, none⟩ := fun j => cell_heapD (Below.heap_setCell _ _ _ _ hk)
  exact ⟨by rw [e1]; exact h.c0, by rw [e1]; exact h.c1, by rw [e1]; exact h.c2, by rw [e1]; exact h.c3, by rw [e1]; exact h.c4⟩
theorem new_drew (w : World) (o : Obj) : (w.alloc o).drew.heap[w.heap.size]? = (w.alloc o).heap[w.heap.size]? := rfl
theorem below_upN {q n d : Nat} (hd : 1 ≤ d) (h : q < upN n d) : q * d + 1 ≤ n := by
  unfold upN at h
  have h1 : (q + 1) * d ≤ n + d - 1 := (Nat.le_div_iff_mul_le (by omega)).1 h
  rw [Nat.add_mul] at h1
  omega
theorem round_facts {b : Nat} {x : Tk} {l : List Tk} {busy q : Nat} (hx : okT x = true) (h : bF b x l busy = busy) (hb : busy ≤ 200000) (hq : q < upN (busy + jN x) (tN x)) :
    setF (gF b x l q) (b + q * cN x) = some (wQ b x l q) ∧ wQ b x l q ≤ 200000 ∧ q * tN x ≤ 1200000 ∧ b + q * cN x ≤ 200000 := by
  obtain ⟨y, hy, hl, hm⟩ := begin_is hx h hb hq
  obtain ⟨q1, q2, q3, q4, q5, -⟩ := okT_n hx
  have h1 := below_upN q3 hq
  obtain ⟨h2, -⟩ := begins hx h hq
  unfold wQ
  rw [hy]
  simp only [Option.getD_some, true_and]
  omega
theorem gF_le {b : Nat} {x : Tk} {l : List Tk} {q : Nat} (hb : b + q * cN x ≤ 200000) (hl : ∀ y ∈ l, okT y = true) (hn : l.length ≤ 20) {t : Nat} (ht : t ≤ 200000) : gF b x l q t ≤ 10000000000 := by
  have h2 := sumN_le hl (show t + 1 ≤ 300000 by omega)
  have h3 : l.length * (135 * (300000 + 1000000)) ≤ 20 * (135 * (300000 + 1000000)) := Nat.mul_le_mul_right _ hn
  unfold gF
  omega
theorem wtK_le2 {b : Nat} {x : Tk} {l : List Tk} {busy : Nat} (hx : okT x = true) (h : bF b x l busy = busy) (hb : busy ≤ 200000) : ∀ q, q ≤ upN (busy + jN x) (tN x) → wtK b x l 0 q ≤ 1300000
  | 0, _ => by unfold wtK; omega
  | q + 1, hq => by
    have h1 := wtK_le2 hx h hb q (by omega)
    obtain ⟨-, h2, -, -⟩ := round_facts (q := q) hx h hb (by omega)
    obtain ⟨q1, q2, q3, q4, q5, -⟩ := okT_n hx
    unfold wtK tQ
    have h3 : 0 ≤ (q : Int) * (tN x : Int) := by rw [← Int.natCast_mul]; omega
    omega
set_option maxHeartbeats 8000000 in
set_option maxRecDepth 100000 in
theorem longestWait_any (x : Tk) (b g : Nat) (a : Option Addr) (n c : Nat) (l : List Tk) (w : World) (hx : okT x = true) (hb : b ≤ 135) (hl : ∀ y ∈ l, okT y = true) (hn : l.length ≤ 20) (hA : SumAt w g a n c l) (hS : SizesAt w) (hR : RulesAt w) :
    Calls Tryd.prog 24 #[x.val, .int .i64 b, smV g] w fun e w' => e = .returned (.int .i64 (waitN b x l)) ∧ Below w.heap.size w w' := by
  obtain ⟨q1, q2, q3, q4, q5, q6, q7, -⟩ := okT_n hx
  have hb1 := awD w (tkC x)
  have hb2 := awD (w.alloc (tkC x)) (.cells #[.int .i64 b] 3)
  have hb3 := awD ((w.alloc (tkC x)).alloc (.cells #[.int .i64 b] 3)) (.cells #[smV g] 67)
  have hb0 := bl2 (bl2 hb1 hb2) hb3
  have e2 : ((w.alloc (tkC x)).alloc (.cells #[.int .i64 b] 3)).heap.size = w.heap.size + 1 + 1 := by rw [allocS, allocS]
  have HX0 := Hid.mk (((TkAt.new w x).kept hb2).kept hb3)
  have HBX := Hid.mk (cell_kept hb3 (cell_of_row ((w.alloc (tkC x)).alloc (.cells #[.int .i64 b] 3)) (w.heap.size + 1) 0 _ _ _ (by rw [← allocS w (tkC x)]; exact heap_alloc_new _ _)))
  have HAX := Hid.mk (cell_of_row (((w.alloc (tkC x)).alloc (.cells #[.int .i64 b] 3)).alloc (.cells #[smV g] 67)) (w.heap.size + 1 + 1) 0 _ _ _ (by rw [← e2]; exact heap_alloc_new _ _))
  have HAX' : Hid ((((w.alloc (tkC x)).alloc (.cells #[.int .i64 b] 3)).alloc (.cells #[smV g] 67)).cell? ⟨w.heap.size + 1 + 1, 0, none⟩ = some (smV g)) := HAX
  have HBX' : Hid ((((w.alloc (tkC x)).alloc (.cells #[.int .i64 b] 3)).alloc (.cells #[smV g] 67)).cell? ⟨w.heap.size + 1, 0, none⟩ = some (.int .i64 b)) := HBX
  have HA0 := Hid.mk (hA.kept hb0)
  have HS0 := Hid.mk (hS.kept hb0)
  have HR0 := Hid.mk (hR.kept hb0)
  have HB0 := Hid.mk hb0
  have HZ0 := Hid.mk (show w.heap.size + 1 + 1 + 1 ≤ (((w.alloc (tkC x)).alloc (.cells #[.int .i64 b] 3)).alloc (.cells #[smV g] 67)).heap.size by rw [allocS, e2]; exact Nat.le_refl _)
  have HOX := Hid.mk hx
  have HOL := Hid.mk hl
  have HNL := Hid.mk hn
  have HBB := Hid.mk hb
  have HEV := Hid.mk q6
  have HJI := Hid.mk q7
  have HT1 := Hid.mk q3
  have HT2 := Hid.mk q4
  have HTJ := Hid.mk q5
  have HC1 := Hid.mk q1
  have HC2 := Hid.mk q2
  clear HAX HBX hb0 hb1 hb2 hb3 e2 hA hS hR hx hl hn q6 q7 q3 q4 q5
  obtain ⟨C, hC⟩ : ∃ C : Nat, C = cN x := ⟨_, rfl⟩
  have HCE := Hid.mk hC
  rw [← hC] at q1 q2
  clear hC
  obtain ⟨WT, hWT⟩ : ∃ WT : Int, WT = waitN b x l := ⟨_, rfl⟩
  rw [← hWT]
  have HWT := Hid.mk hWT
  clear hWT
  unfold tkC at HX0 HBX' HAX' HA0 HS0 HR0 HB0 HZ0
  unfold Tk.val smV
  unfold smV at HX0 HBX' HAX' HA0 HS0 HR0 HB0 HZ0
  go_enter Tryd.func24, Tryd.ntmps24
  go_wp2_with fail
  obtain ⟨W0, hW0⟩ : ∃ W0, W0 = ((w.alloc (.cells #[.int .i64 x.id, .int .i64 x.by_, .int .i64 x.ev, .int .i64 x.la, .int .i64 x.ji] 31)).alloc (.cells #[.int .i64 b] 3)).alloc (.cells #[.func (.func 41) #[] #[.pointer (some ⟨g, 0, none⟩)]] 67) := ⟨_, rfl⟩
  rw [← hW0] at HX0 HBX' HAX' HA0 HS0 HR0 HB0 HZ0 ⊢
  clear hW0
  go_cut [7, 8] (fun s7 s8 wx => ∃ g7, s7 = .pointer (some ⟨g7, 0, none⟩) ∧ s8 = .int .i64 C ∧ Hid (∃ p q, wx.cell? ⟨g7, 0, none⟩ = some (wkV p q) ∧ WkOn wx p q x) ∧ Hid (Below W0.heap.size W0 wx))
  case first =>
    have hS0 := HX0.out.all
    have HNE0 : Hid (w.heap.size ≠ W0.heap.size) := Hid.mk (by have := HZ0.out; omega)
    have HWK : Hid (∀ W, Below W0.heap.size W0 W → Calls Tryd.prog 27 #[x.val] W fun e w' => ∃ p q, e = .returned (wkV p q) ∧ WkOn w' p q x ∧ W.heap.size ≤ p ∧ W.heap.size ≤ q ∧ p < w'.heap.size ∧ q < w'.heap.size ∧ Below W.heap.size W w') := Hid.mk (fun W hW => workOf_any x W HOX.out (HS0.out.kept hW) (HR0.out.kept hW))
    have HTK : Hid (∀ W, Below W0.heap.size W0 W → Calls Tryd.prog 36 #[x.val] W fun e w' => e = .returned (.int .i64 C) ∧ Below W.heap.size W w') := Hid.mk (fun W hW => by rw [HCE.out]; exact takes_any x W HOX.out (HS0.out.kept hW) (HR0.out.kept hW))
    unfold Tk.val at HWK HTK
    have HD1 := Hid.mk (drewBD W0)
    have HD2 := Hid.mk (adrewBD W0 (.cells #[.nilFunc] 67))
    have HK2 := Hid.mk (show BoxAt (W0.alloc (.cells #[.nilFunc] 67)).drew W0.heap.size 67 .nilFunc from heap_alloc_new W0 _)
    go_region_held3 (fun w' => w'.cell? ⟨w.heap.size, 0, none⟩ = some (.int .i64 x.id) ∧ w'.cell? ⟨w.heap.size, 1, none⟩ = some (.int .i64 x.by_) ∧ w'.cell? ⟨w.heap.size, 2, none⟩ = some (.int .i64 x.ev) ∧ w'.cell? ⟨w.heap.size, 3, none⟩ = some (.int .i64 x.la) ∧ w'.cell? ⟨w.heap.size, 4, none⟩ = some (.int .i64 x.ji)) (with_reducible first | exact hS0 | exact (HX0.out.kept HD1.out).all | exact (HX0.out.kept HD2.out).all | exact (HX0.out.kept (awD _ _)).all | exact (HX0.out.kept HB1.out).all | exact (HX0.out.kept (bl2 HB1.out (awD _ _))).all | exact (HX0.out.kept HB2.out).all | exact (HX0.out.kept (bl2 HB2.out (awD _ _))).all | exact ((HX0.out.kept HB2.out).set HNE0.out _).all | exact ((HX0.out.kept HB2.out).set HNE1.out _).all) (first
      | (go_at_call 27; (first
        | (with_reducible refine (HWK.out _ HD1.out).mono ?_; rintro e w1 ⟨p, q, rfl, hwk, hp1, hq1, hp2, hq2, hb1⟩; have HB1 := Hid.mk (bl2 HD1.out hb1); have HNE1 := Hid.mk (Nat.ne_of_lt (Nat.lt_of_lt_of_le (Nat.lt_of_lt_of_le (Nat.lt_add_of_pos_right (Nat.zero_lt_succ 2)) HZ0.out) HB1.out.size)); have HPQ := Hid.mk (And.intro hp2 hq2); have HBA := Hid.mk (awD w1 (.cells #[.nilFunc] 67)); have HKA := Hid.mk (boxNew w1 .nilFunc 67))
        | (with_reducible refine (HWK.out _ HD2.out).mono ?_; rintro e w1 ⟨p, q, rfl, hwk, hp1, hq1, hp2, hq2, hb1⟩; have HB1 := Hid.mk (bl2 HD2.out hb1); have HK1 := Hid.mk (HK2.out.kept hb1); have HPQ := Hid.mk (And.intro hp1 hq1))); have HON := Hid.mk hwk; clear hwk hp1 hq1 hp2 hq2 hb1; unfold wkV)
      | (go_at_call 36; (first
        | (with_reducible refine (HTK.out _ (bl2 HB1.out HBA.out)).mono ?_; rintro e w2 ⟨rfl, hb2⟩; have HB2 := Hid.mk (bl2 (bl2 HB1.out HBA.out) hb2); have HO2 := Hid.mk ((HON.out.kept HBA.out).kept hb2); have HKB := Hid.mk (HKA.out.kept hb2); clear hb2; have hst := store_fnG HKB.out 42 #[.pointer (some ⟨p, 0, none⟩), .pointer (some ⟨q, 0, none⟩)])
        | (with_reducible refine (HTK.out _ HB1.out).mono ?_; rintro e w2 ⟨rfl, hb2⟩; have HB2 := Hid.mk (bl2 HB1.out hb2); have HO2 := Hid.mk (HON.out.kept hb2); have HKB := Hid.mk (HK1.out.kept hb2); clear hb2; have hst := store_fnG HKB.out 42 #[.pointer (some ⟨p, 0, none⟩), .pointer (some ⟨q, 0, none⟩)])
        | (with_reducible refine (HTK.out _ HB1.out).mono ?_; rintro e w2 ⟨rfl, hb2⟩; have HB2 := Hid.mk (bl2 HB1.out hb2); have HO2 := Hid.mk (HON.out.kept hb2); clear hb2; have hst := store_fnD w2 42 #[.pointer (some ⟨p, 0, none⟩), .pointer (some ⟨q, 0, none⟩)] 67))))
    all_goals focus
      go_wp2_with fail
      go_meet
      first
        | exact ⟨_, rfl, rfl, Hid.mk ⟨p, q, (boxNew w2 _ 67).cell, HO2.out.kept (awD w2 _)⟩, Hid.mk (bl2 HB2.out (awD w2 _))⟩
        | exact ⟨_, rfl, rfl, Hid.mk ⟨p, q, (HKB.out.set _).cell, HO2.out.set (Nat.ne_of_lt HPQ.out.1) (Nat.ne_of_lt HPQ.out.2) _⟩, Hid.mk (HB2.out.setCell (p := ⟨w1.heap.size, 0, none⟩) HB1.out.size _)⟩
        | (have hz : (W0.alloc (.cells #[.nilFunc] 67)).drew.heap.size = W0.heap.size + 1 := allocS W0 _
           have hpq := HPQ.out
           rw [hz] at hpq
           exact ⟨_, rfl, rfl, Hid.mk ⟨p, q, (HKB.out.set _).cell, HO2.out.set (by omega) (by omega) _⟩, Hid.mk (HB2.out.setCell (p := ⟨W0.heap.size, 0, none⟩) (Nat.le_refl _) _)⟩)
  case rest =>
    obtain ⟨g7, rfl, rfl, HWW, HBc⟩ := hcut
    have HL1 : Hid (L1At wc (w.heap.size + 1) g7 (w.heap.size + 1 + 1) b x l) := Hid.mk ⟨cell_kept HBc.out HBX'.out, HWW.out, ⟨g, a, n, c, cell_kept HBc.out HAX'.out, HA0.out.kept HBc.out⟩⟩
    have k1 := HL1.out.b
    have HF0 := Hid.mk (bF_from HOX.out b l)
    rw [← HCE.out] at HF0
    have HST := Hid.mk (settle_any 38 #[.pointer (some ⟨w.heap.size + 1, 0, none⟩), .pointer (some ⟨g7, 0, none⟩), .pointer (some ⟨w.heap.size + 1 + 1, 0, none⟩)] enter_l1 (bF b x l) (b + C) wc (bF_mono b x l) HF0.out (fun t ht => (bF_le HBB.out HOX.out HOL.out HNL.out (show t ≤ 300000 by omega)).2.2) (by omega) (fun W t hW ht => wait1_any _ _ _ b t x l W (HL1.out.kept hW) HBB.out HOX.out HOL.out HNL.out (by omega)))
    have ebc : ((b + C : Nat) : Int) = (b : Int) + (C : Int) := by omega
    rw [ebc] at HST
    have hbi : (b : Int) ≤ 135 := by omega
    have hci : (C : Int) ≤ 135 := by omega
    clear ebc
    go_wp2_with fail
    have HWN : Hid (WT = match setF (bF b x l) (b + C) with | none => -1 | some y => wtK b x l 0 (upN (y + jN x) (tN x))) := Hid.mk (by rw [HWT.out, HCE.out]; rfl)
    cases hse : setF (bF b x l) (b + C) with
    | none =>
      rw [hse] at HST HWN
      refine HST.out.mono ?_
      rintro e w3 ⟨rfl, hb3⟩
      have HB3 := Hid.mk (bl2 (bl2 HB0.out HBc.out) hb3)
      clear hb3 HST hse
      simp only [Option.isSome_none, Option.getD_none]
      go_wp2_with fail
      go_ret
      exact ⟨by rw [HWN.out]; rfl, HB3.out⟩
    | some busy =>
      rw [hse] at HST
      have HWM : Hid (WT = wtK b x l 0 (upN (busy + jN x) (tN x))) := Hid.mk (by rw [HWN.out, hse])
      clear HWN
      have hse' : setF (bF b x l) (b + cN x) = some busy := by rw [← HCE.out]; exact hse
      obtain ⟨⟨-, hfx, -⟩, hbz⟩ := setF_some (bF_mono b x l) (bF_from HOX.out b l) hse'
      have HFX := Hid.mk hfx
      have HBZ := Hid.mk hbz
      refine HST.out.mono ?_
      rintro e w3 ⟨rfl, hb3⟩
      have HB3 := Hid.mk (bl2 HBc.out hb3)
      have HX3 := Hid.mk ((HX0.out.kept HBc.out).kept hb3)
      have HL3 := Hid.mk (HL1.out.kept hb3)
      clear hb3 HST hse hse' hfx k1 HWW HL1 HF0
      simp only [Option.isSome_some, Option.getD_some]
      obtain ⟨T, hT⟩ : ∃ T : Nat, T = tN x := ⟨_, rfl⟩
      obtain ⟨J, hJ⟩ : ∃ J : Nat, J = jN x := ⟨_, rfl⟩
      have HTE := Hid.mk hT
      have HJE := Hid.mk hJ
      have x2 := HX3.out.c2
      have x4 := HX3.out.c4
      rw [HEV.out, ← hT] at x2
      rw [HJI.out, ← hJ] at x4
      have t1 := HT1.out
      have t2 := HT2.out
      have t3 := HTJ.out
      rw [← hT] at t1 t2 t3
      rw [← hJ] at t3
      rw [← hT, ← hJ] at HWM
      clear hT hJ
      obtain ⟨K, hK⟩ : ∃ K : Nat, K = upN (busy + J) T := ⟨_, rfl⟩
      have hKb := upN_le (n := busy + J) t1
      have HUP : Hid (∀ W, Calls Tryd.prog 39 #[.int .i64 ((busy : Int) + (J : Int)), .int .i64 (T : Nat)] W fun e w' => e = .returned (.int .i64 (upN (busy + J) T : Nat)) ∧ w' = W) := Hid.mk (fun W => roundedUp_any (busy + J) T W (by omega) t1 t2)
      rw [← hK] at HUP HWM hKb
      have HKE := Hid.mk hK
      clear hK
      have i1 : (busy : Int) ≤ 200000 := by omega
      have i2 : (J : Int) ≤ 1000000 := by omega
      have i3 : (T : Int) ≤ 1000000 := by omega
      have i4 : (K : Int) ≤ 1200000 := by omega
      go_wp2_with fail
      refine (HUP.out _).mono ?_
      rintro e w4 ⟨rfl, hw4⟩
      rw [hw4]
      clear hw4 HUP
      go_wp2_with fail
      go_loopw [11, 37] (fun s i wr => ∃ (q : Nat) (S : Int), q ≤ K ∧ i = .int .i64 q ∧ s = .int .i64 S ∧ 0 ≤ S ∧ S ≤ 1300000 ∧ Hid (S = wtK b x l 0 q) ∧ Hid (Below w3.heap.size w3 wr)) (fun _ i _ => K - (intOf i).toNat)
      case atStart => exact ⟨0, 0, Nat.zero_le _, rfl, rfl, by omega, by omega, Hid.mk rfl, Hid.mk (Below.refl _ _)⟩
      case round =>
        obtain ⟨q, S, hq, rfl, rfl, hS0, hS1, HA, HB⟩ := hrel
        by_cases hlt : q < K
        · have hlt' : (q : Int) < (K : Int) := by omega
          obtain ⟨f1, f2, f3, f4⟩ := round_facts (q := q) HOX.out HFX.out HBZ.out (by rw [← HTE.out, ← HJE.out, ← HKE.out]; exact hlt)
          obtain ⟨Y, hY⟩ : ∃ Y : Nat, Y = wQ b x l q := ⟨_, rfl⟩
          have hTQ : tQ b x l q = (J : Int) + (Y : Int) - (q : Int) * (T : Int) + (C : Int) := by unfold tQ; rw [hY, HTE.out, HJE.out, HCE.out]
          have HNX : Hid (wtK b x l 0 (q + 1) = max S ((J : Int) + (Y : Int) - (q : Int) * (T : Int) + (C : Int))) := Hid.mk (by rw [wtK, ← HA.out, hTQ])
          have HNB := Hid.mk (wtK_le2 (q := q + 1) HOX.out HFX.out HBZ.out (by rw [← HTE.out, ← HJE.out, ← HKE.out]; exact hlt))
          rw [HNX.out] at HNB
          rw [← hY, ← HCE.out] at f1
          rw [← hY] at f2
          rw [← HTE.out] at f3
          have hqT0 : 0 ≤ (q : Int) * (T : Int) := by rw [← Int.natCast_mul]; omega
          have hqT1 : (q : Int) * (T : Int) ≤ 1200000 := by rw [← Int.natCast_mul]; omega
          have hqC0 : 0 ≤ (q : Int) * (C : Int) := by rw [← Int.natCast_mul]; omega
          have hqC1 : (q : Int) * (C : Int) ≤ 200000 := by rw [← Int.natCast_mul, HCE.out]; omega
          have hY1 : (Y : Int) ≤ 200000 := by omega
          have hqi : (q : Int) ≤ 1200000 := by omega
          have ebc : ((b + q * C : Nat) : Int) = (b : Int) + (q : Int) * (C : Int) := by rw [Int.natCast_add, Int.natCast_mul]
          have hb5 := awD wr (.cells #[.int .i64 ((b : Int) + (q : Int) * (C : Int))] 3)
          have HB5 := Hid.mk (bl2 HB.out hb5)
          have HL5 := Hid.mk ((HL3.out.kept HB.out).kept hb5)
          have hd5 : (wr.alloc (.cells #[.int .i64 ((b : Int) + (q : Int) * (C : Int))] 3)).cell? ⟨wr.heap.size, 0, none⟩ = some (.int .i64 ((b + q * C : Nat) : Int)) := by rw [ebc]; exact cell_of_row _ _ 0 _ _ _ (heap_alloc_new wr _)
          have hqC : b + q * C ≤ 200000 := by rw [HCE.out]; exact f4
          have HST := Hid.mk (settle_any 40 #[.pointer (some ⟨wr.heap.size, 0, none⟩), .pointer (some ⟨w.heap.size + 1 + 1, 0, none⟩)] enter_l2 (gF b x l q) (b + q * C) (wr.alloc (.cells #[.int .i64 ((b : Int) + (q : Int) * (C : Int))] 3)) (gF_mono b x l q) (by rw [HCE.out]; exact gF_from b x l q _) (fun t ht => gF_le f4 HOL.out HNL.out ht) (by omega) (fun W t hW ht => by
            have := wait2_any wr.heap.size (w.heap.size + 1 + 1) (b + q * C) t l W (cell_kept hW hd5) ((HL5.out.kept hW).a) (by omega) HOL.out HNL.out ht
            unfold gF
            rw [← HCE.out]
            exact this))
          rw [ebc, f1] at HST
          have k1 := cell_kept HB.out HL3.out.b
          have HX4 := Hid.mk (show wr.cell? ⟨w.heap.size, 2, none⟩ = some (.int .i64 (T : Nat)) ∧ wr.cell? ⟨w.heap.size, 4, none⟩ = some (.int .i64 (J : Nat)) from ⟨cell_kept HB.out x2, cell_kept HB.out x4⟩)
          clear f1 f2 f3 f4 hY hTQ ebc hb5 hd5 hqC x2 x4
          go_wp2_with fail
          refine HST.out.mono ?_
          rintro e w5 ⟨rfl, hb6⟩
          have HB6 := Hid.mk (bl2 HB5.out hb6)
          have hb7 := bl2 (awD wr (.cells #[.int .i64 ((b : Int) + (q : Int) * (C : Int))] 3)) hb6
          have x2 := cell_kept hb7 HX4.out.1
          have x4 := cell_kept hb7 HX4.out.2
          clear hb6 hb7 HST k1
          simp only [Option.isSome_some, Option.getD_some]
          by_cases hmx : S < (J : Int) + (Y : Int) - (q : Int) * (T : Int) + (C : Int)
          · have HE : Hid ((J : Int) + (Y : Int) - (q : Int) * (T : Int) + (C : Int) = wtK b x l 0 (q + 1)) := Hid.mk (by rw [HNX.out]; omega)
            have hVB : (J : Int) + (Y : Int) - (q : Int) * (T : Int) + (C : Int) ≤ 1300000 := by have := HNB.out; omega
            go_wp2_with fail
            go_roundw
            case rel => exact ⟨q + 1, _, by omega, by go_num, by first | rfl | (apply int_eq; omega), by omega, hVB, HE, HB6⟩
            case measure => simp [intOf]; omega
          · have HE : Hid (S = wtK b x l 0 (q + 1)) := Hid.mk (by rw [HNX.out]; omega)
            have hmx2 : (J : Int) + (Y : Int) - (q : Int) * (T : Int) + (C : Int) ≤ S := by omega
            go_wp2_with fail
            go_roundw
            case rel => exact ⟨q + 1, S, by omega, by go_num, by first | rfl | (apply int_eq; omega), hS0, hS1, HE, HB6⟩
            case measure => simp [intOf]; omega
        · obtain rfl : q = K := by omega
          have HE : Hid (S = WT) := Hid.mk (by rw [HA.out, HWM.out])
          go_wp2_with fail
          go_ret
          exact ⟨by rw [HE.out]; rfl, bl2 HB0.out (bl2 HB3.out HB.out)⟩
end Bw
end Go.Proofs.YtnhnemmddgofnaaDoor
