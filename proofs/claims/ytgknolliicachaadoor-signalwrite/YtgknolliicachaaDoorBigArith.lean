/- omnibusbig's whole numbers: Uint64, Int64, sum, Add, Sub and Mul. -/
import Derived.Test.YtgknolliicachaaDoorBigZ
import Derived.Test.YtgknolliicachaaDoorWordsAdd
import Derived.Test.YtgknolliicachaaDoorWordsMul
import Derived.Test.YtgknolliicachaaDoorWordsSub
namespace Go.Proofs.YtgknolliicachaaDoor
open Go.ChangeShapes Go.WideShapes Go.ChangeAt Go.RowKit Go.Sort
namespace Ww
open Wm
open Bw (Tch bl2 cell_kept)
theorem abs_smallA {r : Int} (h1 : -4611686018427387903 ≤ r) (h2 : r ≤ 4611686018427387903) {xs : List Nat} (hv : valW xs = r.natAbs) : valW xs < 2 ^ 62 := by omega
set_option maxHeartbeats 4000000 in
theorem uint64_z (g o : Nat) (r : Int) (w : World) (h : ZAt w g o r) (hr1 : -4611686018427387903 ≤ r) (hr2 : r ≤ 4611686018427387903) :
    Calls Tryd.prog 69 #[.pointer (some ⟨g, o, none⟩)] w fun e w' => e = .returned (.int .u64 (r.natAbs : Int)) ∧ w' = w := by
  obtain ⟨va, xs, a1, a2, hW, ht, hv⟩ := h
  have hn := abs_smallA hr1 hr2 hv
  have hl := len_two ht hn
  obtain ⟨a, c, rfl, hc, hm, hnil, hcells, hok⟩ := hW
  rw [← hv]
  clear ht a1 hv hr1 hr2
  match xs, hl with
  | [], _ =>
    clear hcells hnil hok hn hm hc
    simp only [List.length_nil, valW] at a2 ⊢
    go_enter Tryd.func69, Tryd.ntmps69
    go_wp2
    go_ret
    exact ⟨rfl, rfl⟩
  | [x], _ =>
    have hv : valW [x] = x := by simp [valW]
    rw [hv]
    cases a with
    | none => exact absurd (hnil rfl) (by simp)
    | some p =>
      have h0 := hcells p rfl 0 (by simp)
      have hx := hok x (by simp)
      have hx' : (x : Int) ≤ 4294967295 := by omega
      rw [addr0] at h0
      simp only [List.length_singleton, List.getD_cons_zero] at h0 a2 ⊢
      clear hcells hnil hok hv hn hm hc
      go_enter Tryd.func69, Tryd.ntmps69
      go_wp2
      go_ret
      exact ⟨rfl, rfl⟩
  | [x, y], _ =>
    have hv : valW [x, y] = x + 4294967296 * y := by simp [valW]
    rw [hv] at hn ⊢
    cases a with
    | none => exact absurd (hnil rfl) (by simp)
    | some p =>
      have h0 := hcells p rfl 0 (by simp)
      have h1 := hcells p rfl 1 (by simp)
      have hx := hok x (by simp)
      have hy2 : y < 1073741824 := by omega
      have hor := or_hiW x y hx hy2
      have hx' : (x : Int) ≤ 4294967295 := by omega
      have hy' : (y : Int) ≤ 1073741823 := by omega
      rw [addr0] at h0
      simp only [List.length_cons, List.length_nil, List.getD_cons_zero, List.getD_cons_succ] at h0 h1 a2 ⊢
      have h1' : w.cell? ⟨p.block, p.off + 1, none⟩ = some (.int .u32 (y : Int)) := by rw [← h1]; simp [Addr.add]
      clear hcells hnil hok hv hn h1 hm hc
      go_enter Tryd.func69, Tryd.ntmps69
      go_wp2
      go_ret
      exact ⟨rfl, rfl⟩
set_option maxHeartbeats 4000000 in
theorem int64_z (g o : Nat) (r : Int) (w : World) (h : ZAt w g o r) (hr1 : -4611686018427387903 ≤ r) (hr2 : r ≤ 4611686018427387903) :
    Calls Tryd.prog 43 #[.pointer (some ⟨g, o, none⟩)] w fun e w' => e = .returned (.int .i64 r) ∧ w' = w := by
  have hU := uint64_z g o r w h hr1 hr2
  obtain ⟨va, xs, a1, -, -, -, -⟩ := h
  obtain ⟨U, hUd⟩ : ∃ U : Int, U = (r.natAbs : Int) := ⟨_, rfl⟩
  rw [← hUd] at hU
  have HU := Hid.mk hU
  have hb1 : 0 ≤ U := by omega
  have hb2 : U ≤ 4611686018427387903 := by omega
  by_cases hn : r < 0
  · rw [decide_eq_true hn] at a1
    have hr : r = -U := by omega
    rw [hr]
    clear hr hn hUd hr1 hr2 hU
    go_enter Tryd.func43, Tryd.ntmps43
    go_wp2_with fail
    with_reducible refine HU.out.mono ?_
    rintro e w1 ⟨rfl, hw1⟩
    obtain rfl := hw1.symm
    go_wp2_with fail
    go_ret
    exact ⟨rfl, rfl⟩
  · rw [decide_eq_false hn] at a1
    have hr : r = U := by omega
    rw [hr]
    clear hr hn hUd hr1 hr2 hU
    go_enter Tryd.func43, Tryd.ntmps43
    go_wp2_with fail
    with_reducible refine HU.out.mono ?_
    rintro e w1 ⟨rfl, hw1⟩
    obtain rfl := hw1.symm
    go_wp2_with fail
    go_ret
    exact ⟨rfl, rfl⟩
/-- a flag that tells a number's sign, but of 0 -/
def Flag (f : Bool) (x : Int) : Prop := x ≠ 0 → f = decide (x < 0)
theorem val_len {xs ys : List Nat} (hx : okW xs) (hty : trimW ys) (h : valW ys ≤ valW xs) : ys.length ≤ xs.length :=
  trimW_len hty xs.length (Nat.lt_of_le_of_lt h (valW_lt xs hx))
theorem okOf {w : World} {v : Value} {xs : List Nat} (h : IsW w v xs) : okW xs := by obtain ⟨_, _, _, _, _, _, _, h⟩ := h; exact h
set_option maxHeartbeats 8000000 in
set_option maxRecDepth 100000 in
theorem sum_z (fx fy : Bool) (va vb : Value) (xs ys : List Nat) (x y : Int) (w : World) (ha : IsW w va xs) (hb : IsW w vb ys) (hta : trimW xs) (htb : trimW ys) (hva : valW xs = x.natAbs) (hvb : valW ys = y.natAbs) (hfx : Flag fx x) (hfy : Flag fy y) (hx1 : -4611686018427387903 ≤ x) (hx2 : x ≤ 4611686018427387903) (hy1 : -4611686018427387903 ≤ y) (hy2 : y ≤ 4611686018427387903) :
    Calls Tryd.prog 85 #[.bool fx, va, .bool fy, vb] w fun e w' => ∃ f v' zs, e = .returned (.tuple #[.bool f, v']) ∧ Flag f (x + y) ∧ IsW w' v' zs ∧ trimW zs ∧ valW zs = (x + y).natAbs ∧ Below w.heap.size w w' := by
  have hla := len_two hta (abs_smallA hx1 hx2 hva)
  have hlb := len_two htb (abs_smallA hy1 hy2 hvb)
  have HAD := Hid.mk (add_any va vb xs ys w ha hb (by omega) (by omega))
  have HCM := Hid.mk (cmp_any va vb xs ys w ha hb hta htb (by omega) (by omega))
  have HS1 := Hid.mk (fun W (h : Below w.heap.size w W) (hle : valW ys ≤ valW xs) => sub_any va vb xs ys W (ha.below h) (hb.below h) (by omega) (val_len (okOf ha) htb hle) hle)
  have HS2 := Hid.mk (fun W (h : Below w.heap.size w W) (hle : valW xs ≤ valW ys) => sub_any vb va ys xs W (hb.below h) (ha.below h) (by omega) (val_len (okOf hb) hta hle) hle)
  obtain ⟨la, na, ca, rfl⟩ := ha.sliceB
  obtain ⟨lb, nb, cb, rfl⟩ := hb.sliceB
  by_cases hf : fx = fy
  · subst hf
    have hval : valW xs + valW ys = (x + y).natAbs := by
      rw [hva, hvb]
      by_cases h0 : x = 0
      · subst h0; simp
      · by_cases h1 : y = 0
        · subst h1; simp
        · have e1 := hfx h0
          have e2 := hfy h1
          rw [e1] at e2
          have := decide_eq_decide.1 e2
          omega
    have hfl : Flag fx (x + y) := by
      intro hne
      by_cases h0 : x = 0
      · subst h0
        rw [Int.zero_add] at hne ⊢
        exact hfy hne
      · have e1 := hfx h0
        by_cases h1 : y = 0
        · subst h1; rw [Int.add_zero]; exact e1
        · have e2 := hfy h1
          rw [e1] at e2 ⊢
          have := decide_eq_decide.1 e2
          rw [decide_eq_decide]
          omega
    have HVL := Hid.mk hval
    have HFL := Hid.mk hfl
    clear ha hb hta htb hva hvb hfx hfy hx1 hx2 hy1 hy2 hla hlb hval hfl HCM HS1 HS2
    go_enter Tryd.func85, Tryd.ntmps85
    cases fx
    all_goals
      go_wp2_with fail
      with_reducible refine HAD.out.mono ?_
      rintro e w1 ⟨v', rs, rfl, r1, r2, r3, r4, hb1⟩
      have HR1 := Hid.mk r1
      have HR2 := Hid.mk r2
      have HR3 := Hid.mk r3
      clear r1 r2 r3 r4
      go_wp2_with fail
      go_ret2
      exact ⟨_, _, rs, rfl, HFL.out, HR1.out, HR3.out, HR2.out.trans HVL.out, hb1⟩
  · have hff : (fx == fy) = false := by simpa using hf
    by_cases hle : y.natAbs ≤ x.natAbs
    · have hval : valW xs - valW ys = (x + y).natAbs := by
        rw [hva, hvb]
        by_cases h1 : y = 0
        · subst h1; simp
        · by_cases h0 : x = 0
          · omega
          · have e1 := hfx h0
            have e2 := hfy h1
            rw [e1, e2] at hf
            have : ¬ (x < 0 ↔ y < 0) := fun h => hf (decide_eq_decide.2 h)
            omega
      have hfl : Flag fx (x + y) := by
        intro hne
        have h0 : x ≠ 0 := by omega
        rw [hfx h0, decide_eq_decide]
        by_cases h1 : y = 0
        · subst h1; simp
        · have e1 := hfx h0
          have e2 := hfy h1
          rw [e1, e2] at hf
          have : ¬ (x < 0 ↔ y < 0) := fun h => hf (decide_eq_decide.2 h)
          omega
      have hcm : 0 ≤ cmpN (valW xs) (valW ys) := by unfold cmpN; rw [hva, hvb, if_neg (by omega)]; split <;> omega
      have HS := Hid.mk (fun W h => HS1.out W h (by rw [hva, hvb]; exact hle))
      generalize cmpN (valW xs) (valW ys) = C at *
      have HVL := Hid.mk hval
      have HFL := Hid.mk hfl
      clear ha hb hta htb hva hvb hfx hfy hx1 hx2 hy1 hy2 hla hlb hval hfl HAD HS1 HS2 hle hf
      go_enter Tryd.func85, Tryd.ntmps85
      go_wp2_with fail
      with_reducible refine HCM.out.mono ?_
      rintro e w1 ⟨rfl, hb1⟩
      have HB1 := Hid.mk hb1
      clear hb1
      go_wp2_with fail
      with_reducible refine (HS.out _ HB1.out).mono ?_
      rintro e w2 ⟨v', rs, rfl, r1, r2, r3, hb2⟩
      have HR1 := Hid.mk r1
      have HR2 := Hid.mk r2
      have HR3 := Hid.mk r3
      clear r1 r2 r3
      go_wp2_with fail
      go_ret2
      exact ⟨_, _, rs, rfl, HFL.out, HR1.out, HR3.out, HR2.out.trans HVL.out, bl2 HB1.out hb2⟩
    · have hval : valW ys - valW xs = (x + y).natAbs := by
        rw [hva, hvb]
        have h1 : y ≠ 0 := by omega
        by_cases h0 : x = 0
        · subst h0; simp
        · have e1 := hfx h0
          have e2 := hfy h1
          rw [e1, e2] at hf
          have : ¬ (x < 0 ↔ y < 0) := fun h => hf (decide_eq_decide.2 h)
          omega
      have hfl : Flag fy (x + y) := by
        intro hne
        have h1 : y ≠ 0 := by omega
        rw [hfy h1, decide_eq_decide]
        by_cases h0 : x = 0
        · subst h0; simp
        · have e1 := hfx h0
          have e2 := hfy h1
          rw [e1, e2] at hf
          have : ¬ (x < 0 ↔ y < 0) := fun h => hf (decide_eq_decide.2 h)
          omega
      have hcm : cmpN (valW xs) (valW ys) < 0 := by unfold cmpN; rw [hva, hvb, if_pos (by omega)]; omega
      have HS := Hid.mk (fun W h => HS2.out W h (by rw [hva, hvb]; omega))
      generalize cmpN (valW xs) (valW ys) = C at *
      have HVL := Hid.mk hval
      have HFL := Hid.mk hfl
      clear ha hb hta htb hva hvb hfx hfy hx1 hx2 hy1 hy2 hla hlb hval hfl HAD HS1 HS2 hle hf
      go_enter Tryd.func85, Tryd.ntmps85
      go_wp2_with fail
      with_reducible refine HCM.out.mono ?_
      rintro e w1 ⟨rfl, hb1⟩
      have HB1 := Hid.mk hb1
      clear hb1
      go_wp2_with fail
      with_reducible refine (HS.out _ HB1.out).mono ?_
      rintro e w2 ⟨v', rs, rfl, r1, r2, r3, hb2⟩
      have HR1 := Hid.mk r1
      have HR2 := Hid.mk r2
      have HR3 := Hid.mk r3
      clear r1 r2 r3
      go_wp2_with fail
      go_ret2
      exact ⟨_, _, rs, rfl, HFL.out, HR1.out, HR3.out, HR2.out.trans HVL.out, bl2 HB1.out hb2⟩
set_option maxHeartbeats 8000000 in
set_option maxRecDepth 100000 in
theorem iadd_z (gz : Nat) (cs : List Value) (T : TypeId) (gx ox gy oy : Nat) (x y : Int) (w : World) (hx : ZAt w gx ox x) (hy : ZAt w gy oy y) (hB : BlkAt w gz cs T) (hi : IntV cs) (hnx : gx ≠ gz) (hny : gy ≠ gz) (hx1 : -4611686018427387903 ≤ x) (hx2 : x ≤ 4611686018427387903) (hy1 : -4611686018427387903 ≤ y) (hy2 : y ≤ 4611686018427387903) :
    Calls Tryd.prog 66 #[.pointer (some ⟨gz, 0, none⟩), .pointer (some ⟨gx, ox, none⟩), .pointer (some ⟨gy, oy, none⟩)] w fun e w' => e = .returned (.pointer (some ⟨gz, 0, none⟩)) ∧ OutZ w w' gz 0 cs T (x + y) := by
  obtain ⟨va, xs, a1, a2, a3, a4, a5⟩ := hx
  obtain ⟨vb, ys, b1, b2, b3, b4, b5⟩ := hy
  have hB' : BlkAt w.drew gz cs T := hB
  have HTW := Hid.mk (sum_z (decide (x < 0)) (decide (y < 0)) va vb xs ys x y w.drew a3 b3 a4 b4 a5 b5 (fun _ => rfl) (fun _ => rfl) hx1 hx2 hy1 hy2)
  obtain ⟨b0, p0, l0, c0, hcs⟩ := hi
  have HGV := Hid.mk (fun f v' zs W (hb : Below w.drew.heap.size w.drew W) (hf : Flag f (x + y)) (hW : IsW W v' zs) (ht : trimW zs) (hv : valW zs = (x + y).natAbs) => give_z gz 0 cs T f v' zs (x + y) W (hB'.kept hb) (IntV.noW ⟨b0, p0, l0, c0, hcs⟩) ⟨b0, by rw [hcs]; rfl⟩ ⟨p0, l0, c0, by rw [hcs]; rfl⟩ hW ht hv hf)
  obtain ⟨la, na, ca, rfl⟩ := a3.sliceB
  obtain ⟨lb, nb, cb, rfl⟩ := b3.sliceB
  have hS0 : w.drew.cell? ⟨gx, ox, none⟩ = some (.bool (decide (x < 0))) ∧ w.drew.cell? ⟨gx, ox + 1, none⟩ = some (.slice la na ca) ∧ w.drew.cell? ⟨gy, oy, none⟩ = some (.bool (decide (y < 0))) ∧ w.drew.cell? ⟨gy, oy + 1, none⟩ = some (.slice lb nb cb) := ⟨a1, a2, b1, b2⟩
  generalize decide (x < 0) = X at *
  generalize decide (y < 0) = Y at *
  have HNX := Hid.mk hnx
  have HNY := Hid.mk hny
  clear a3 a4 a5 b3 b4 b5 hB hB' hx1 hx2 hy1 hy2 hcs hnx hny
  go_enter Tryd.func66, Tryd.ntmps66
  go_wp2_with fail
  go_region_held3 (fun w' => w'.cell? ⟨gx, ox, none⟩ = some (.bool X) ∧ w'.cell? ⟨gx, ox + 1, none⟩ = some (.slice la na ca) ∧ w'.cell? ⟨gy, oy, none⟩ = some (.bool Y) ∧ w'.cell? ⟨gy, oy + 1, none⟩ = some (.slice lb nb cb)) (first | exact hS0 | exact hS1 | exact hS2) (first
    | (go_at_call 85; with_reducible refine HTW.out.mono ?_; rintro e w1 ⟨f, v', zs, rfl, hfl, z1, z2, z3, hb1⟩
       have hS1 : w1.cell? ⟨gx, ox, none⟩ = some (.bool X) ∧ w1.cell? ⟨gx, ox + 1, none⟩ = some (.slice la na ca) ∧ w1.cell? ⟨gy, oy, none⟩ = some (.bool Y) ∧ w1.cell? ⟨gy, oy + 1, none⟩ = some (.slice lb nb cb) := ⟨cell_kept hb1 hS0.1, cell_kept hb1 hS0.2.1, cell_kept hb1 hS0.2.2.1, cell_kept hb1 hS0.2.2.2⟩
       have HG := Hid.mk (HGV.out f v' zs w1 hb1 hfl z1 z2 z3)
       have HB1 := Hid.mk hb1
       clear z1 z2 z3 hb1 hfl)
    | (go_at_call 73; with_reducible refine HG.out.mono ?_; rintro e w2 ⟨rfl, hO⟩
       have hS2 : w2.cell? ⟨gx, ox, none⟩ = some (.bool X) ∧ w2.cell? ⟨gx, ox + 1, none⟩ = some (.slice la na ca) ∧ w2.cell? ⟨gy, oy, none⟩ = some (.bool Y) ∧ w2.cell? ⟨gy, oy + 1, none⟩ = some (.slice lb nb cb) := ⟨cell_tch hS1.1 hO.1 (by simpa using HNX.out), cell_tch hS1.2.1 hO.1 (by simpa using HNX.out), cell_tch hS1.2.2.1 hO.1 (by simpa using HNY.out), cell_tch hS1.2.2.2 hO.1 (by simpa using HNY.out)⟩
       have HO := Hid.mk hO
       clear hO))
  go_wp2_with fail
  go_ret
  exact ⟨rfl, HO.out.pre (bl2 (Ww.drBw1 w) HB1.out)⟩
theorem flag_neg (y : Int) : Flag (!decide (y < 0)) (-y) := by
  intro h
  by_cases h1 : y < 0
  · rw [decide_eq_true h1, decide_eq_false (by omega)]; rfl
  · rw [decide_eq_false h1, decide_eq_true (by omega)]; rfl
set_option maxHeartbeats 8000000 in
set_option maxRecDepth 100000 in
theorem isub_z (gz : Nat) (cs : List Value) (T : TypeId) (gx ox gy oy : Nat) (x y : Int) (w : World) (hx : ZAt w gx ox x) (hy : ZAt w gy oy y) (hB : BlkAt w gz cs T) (hi : IntV cs) (hnx : gx ≠ gz) (hny : gy ≠ gz) (hx1 : -4611686018427387903 ≤ x) (hx2 : x ≤ 4611686018427387903) (hy1 : -4611686018427387903 ≤ y) (hy2 : y ≤ 4611686018427387903) :
    Calls Tryd.prog 71 #[.pointer (some ⟨gz, 0, none⟩), .pointer (some ⟨gx, ox, none⟩), .pointer (some ⟨gy, oy, none⟩)] w fun e w' => e = .returned (.pointer (some ⟨gz, 0, none⟩)) ∧ OutZ w w' gz 0 cs T (x + -y) := by
  obtain ⟨va, xs, a1, a2, a3, a4, a5⟩ := hx
  obtain ⟨vb, ys, b1, b2, b3, b4, b5⟩ := hy
  have hB' : BlkAt w.drew gz cs T := hB
  have HTW := Hid.mk (sum_z (decide (x < 0)) (!decide (y < 0)) va vb xs ys x (-y) w.drew a3 b3 a4 b4 a5 (by rw [b5, Int.natAbs_neg]) (fun _ => rfl) (flag_neg y) hx1 hx2 (by omega) (by omega))
  obtain ⟨b0, p0, l0, c0, hcs⟩ := hi
  have HGV := Hid.mk (fun f v' zs W (hb : Below w.drew.heap.size w.drew W) (hf : Flag f (x + -y)) (hW : IsW W v' zs) (ht : trimW zs) (hv : valW zs = (x + -y).natAbs) => give_z gz 0 cs T f v' zs (x + -y) W (hB'.kept hb) (IntV.noW ⟨b0, p0, l0, c0, hcs⟩) ⟨b0, by rw [hcs]; rfl⟩ ⟨p0, l0, c0, by rw [hcs]; rfl⟩ hW ht hv hf)
  obtain ⟨la, na, ca, rfl⟩ := a3.sliceB
  obtain ⟨lb, nb, cb, rfl⟩ := b3.sliceB
  have hS0 : w.drew.cell? ⟨gx, ox, none⟩ = some (.bool (decide (x < 0))) ∧ w.drew.cell? ⟨gx, ox + 1, none⟩ = some (.slice la na ca) ∧ w.drew.cell? ⟨gy, oy, none⟩ = some (.bool (decide (y < 0))) ∧ w.drew.cell? ⟨gy, oy + 1, none⟩ = some (.slice lb nb cb) := ⟨a1, a2, b1, b2⟩
  generalize decide (x < 0) = X at *
  generalize decide (y < 0) = Y at *
  have HNX := Hid.mk hnx
  have HNY := Hid.mk hny
  clear a3 a4 a5 b3 b4 b5 hB hB' hx1 hx2 hy1 hy2 hcs hnx hny
  go_enter Tryd.func71, Tryd.ntmps71
  go_wp2_with fail
  go_region_held3 (fun w' => w'.cell? ⟨gx, ox, none⟩ = some (.bool X) ∧ w'.cell? ⟨gx, ox + 1, none⟩ = some (.slice la na ca) ∧ w'.cell? ⟨gy, oy, none⟩ = some (.bool Y) ∧ w'.cell? ⟨gy, oy + 1, none⟩ = some (.slice lb nb cb)) (first | exact hS0 | exact hS1 | exact hS2) (first
    | (go_at_call 85; with_reducible refine HTW.out.mono ?_; rintro e w1 ⟨f, v', zs, rfl, hfl, z1, z2, z3, hb1⟩
       have hS1 : w1.cell? ⟨gx, ox, none⟩ = some (.bool X) ∧ w1.cell? ⟨gx, ox + 1, none⟩ = some (.slice la na ca) ∧ w1.cell? ⟨gy, oy, none⟩ = some (.bool Y) ∧ w1.cell? ⟨gy, oy + 1, none⟩ = some (.slice lb nb cb) := ⟨cell_kept hb1 hS0.1, cell_kept hb1 hS0.2.1, cell_kept hb1 hS0.2.2.1, cell_kept hb1 hS0.2.2.2⟩
       have HG := Hid.mk (HGV.out f v' zs w1 hb1 hfl z1 z2 z3)
       have HB1 := Hid.mk hb1
       clear z1 z2 z3 hb1 hfl)
    | (go_at_call 73; with_reducible refine HG.out.mono ?_; rintro e w2 ⟨rfl, hO⟩
       have hS2 : w2.cell? ⟨gx, ox, none⟩ = some (.bool X) ∧ w2.cell? ⟨gx, ox + 1, none⟩ = some (.slice la na ca) ∧ w2.cell? ⟨gy, oy, none⟩ = some (.bool Y) ∧ w2.cell? ⟨gy, oy + 1, none⟩ = some (.slice lb nb cb) := ⟨cell_tch hS1.1 hO.1 (by simpa using HNX.out), cell_tch hS1.2.1 hO.1 (by simpa using HNX.out), cell_tch hS1.2.2.1 hO.1 (by simpa using HNY.out), cell_tch hS1.2.2.2 hO.1 (by simpa using HNY.out)⟩
       have HO := Hid.mk hO
       clear hO))
  go_wp2_with fail
  go_ret
  exact ⟨rfl, HO.out.pre (bl2 (Ww.drBw1 w) HB1.out)⟩
theorem flag_mul (x y : Int) : Flag (!(decide (x < 0) == decide (y < 0))) (x * y) := by
  intro h
  have h0 : x ≠ 0 := fun e => h (by rw [e]; simp)
  have h1 : y ≠ 0 := fun e => h (by rw [e]; simp)
  by_cases hx : x < 0
  · by_cases hy : y < 0
    · have := Int.mul_pos_of_neg_of_neg hx hy
      rw [decide_eq_true hx, decide_eq_true hy, decide_eq_false (by omega)]; rfl
    · have := Int.mul_neg_of_neg_of_pos hx (show 0 < y by omega)
      rw [decide_eq_true hx, decide_eq_false hy, decide_eq_true this]; rfl
  · by_cases hy : y < 0
    · have := Int.mul_neg_of_pos_of_neg (show 0 < x by omega) hy
      rw [decide_eq_false hx, decide_eq_true hy, decide_eq_true this]; rfl
    · have := Int.mul_pos (show 0 < x by omega) (show 0 < y by omega)
      rw [decide_eq_false hx, decide_eq_false hy, decide_eq_false (by omega)]; rfl
set_option maxHeartbeats 8000000 in
set_option maxRecDepth 100000 in
theorem imul_z (gz : Nat) (cs : List Value) (T : TypeId) (gx ox gy oy : Nat) (x y : Int) (w : World) (hx : ZAt w gx ox x) (hy : ZAt w gy oy y) (hB : BlkAt w gz cs T) (hi : IntV cs) (hnx : gx ≠ gz) (hny : gy ≠ gz) (hx1 : -4611686018427387903 ≤ x) (hx2 : x ≤ 4611686018427387903) (hy1 : -4611686018427387903 ≤ y) (hy2 : y ≤ 4611686018427387903) :
    Calls Tryd.prog 67 #[.pointer (some ⟨gz, 0, none⟩), .pointer (some ⟨gx, ox, none⟩), .pointer (some ⟨gy, oy, none⟩)] w fun e w' => e = .returned (.pointer (some ⟨gz, 0, none⟩)) ∧ OutZ w w' gz 0 cs T (x * y) := by
  obtain ⟨va, xs, a1, a2, a3, a4, a5⟩ := hx
  obtain ⟨vb, ys, b1, b2, b3, b4, b5⟩ := hy
  have hB' : BlkAt w.drew gz cs T := hB
  have hMU := mul_any va vb xs ys w.drew a3 b3 (by have := len_two a4 (abs_smallA hx1 hx2 a5); omega) (by have := len_two b4 (abs_smallA hy1 hy2 b5); omega)
  rw [a5, b5, ← Int.natAbs_mul] at hMU
  have HTW := Hid.mk hMU
  have HFL := Hid.mk (flag_mul x y)
  clear hMU
  obtain ⟨b0, p0, l0, c0, hcs⟩ := hi
  have HGV := Hid.mk (fun f v' zs W (hb : Below w.drew.heap.size w.drew W) (hf : Flag f (x * y)) (hW : IsW W v' zs) (ht : trimW zs) (hv : valW zs = (x * y).natAbs) => give_z gz 0 cs T f v' zs (x * y) W (hB'.kept hb) (IntV.noW ⟨b0, p0, l0, c0, hcs⟩) ⟨b0, by rw [hcs]; rfl⟩ ⟨p0, l0, c0, by rw [hcs]; rfl⟩ hW ht hv hf)
  obtain ⟨la, na, ca, rfl⟩ := a3.sliceB
  obtain ⟨lb, nb, cb, rfl⟩ := b3.sliceB
  have hS0 : w.drew.cell? ⟨gx, ox, none⟩ = some (.bool (decide (x < 0))) ∧ w.drew.cell? ⟨gx, ox + 1, none⟩ = some (.slice la na ca) ∧ w.drew.cell? ⟨gy, oy, none⟩ = some (.bool (decide (y < 0))) ∧ w.drew.cell? ⟨gy, oy + 1, none⟩ = some (.slice lb nb cb) := ⟨a1, a2, b1, b2⟩
  generalize decide (x < 0) = X at *
  generalize decide (y < 0) = Y at *
  have HNX := Hid.mk hnx
  have HNY := Hid.mk hny
  clear a3 a4 a5 b3 b4 b5 hB hB' hx1 hx2 hy1 hy2 hcs hnx hny
  go_enter Tryd.func67, Tryd.ntmps67
  go_wp2_with fail
  go_region_held3 (fun w' => w'.cell? ⟨gx, ox, none⟩ = some (.bool X) ∧ w'.cell? ⟨gx, ox + 1, none⟩ = some (.slice la na ca) ∧ w'.cell? ⟨gy, oy, none⟩ = some (.bool Y) ∧ w'.cell? ⟨gy, oy + 1, none⟩ = some (.slice lb nb cb)) (first | exact hS0 | exact hS1 | exact hS2) (first
    | (go_at_call 86; with_reducible refine HTW.out.mono ?_; rintro e w1 ⟨v', zs, rfl, z1, z3, z2, z4, hb1⟩
       have hS1 : w1.cell? ⟨gx, ox, none⟩ = some (.bool X) ∧ w1.cell? ⟨gx, ox + 1, none⟩ = some (.slice la na ca) ∧ w1.cell? ⟨gy, oy, none⟩ = some (.bool Y) ∧ w1.cell? ⟨gy, oy + 1, none⟩ = some (.slice lb nb cb) := ⟨cell_kept hb1 hS0.1, cell_kept hb1 hS0.2.1, cell_kept hb1 hS0.2.2.1, cell_kept hb1 hS0.2.2.2⟩
       have HG := Hid.mk (HGV.out (!(X == Y)) v' zs w1 hb1 HFL.out z1 z2 z3)
       have HB1 := Hid.mk hb1
       clear z1 z2 z3 z4 hb1)
    | (go_at_call 73; with_reducible refine HG.out.mono ?_; rintro e w2 ⟨rfl, hO⟩
       have hS2 : w2.cell? ⟨gx, ox, none⟩ = some (.bool X) ∧ w2.cell? ⟨gx, ox + 1, none⟩ = some (.slice la na ca) ∧ w2.cell? ⟨gy, oy, none⟩ = some (.bool Y) ∧ w2.cell? ⟨gy, oy + 1, none⟩ = some (.slice lb nb cb) := ⟨cell_tch hS1.1 hO.1 (by simpa using HNX.out), cell_tch hS1.2.1 hO.1 (by simpa using HNX.out), cell_tch hS1.2.2.1 hO.1 (by simpa using HNY.out), cell_tch hS1.2.2.2 hO.1 (by simpa using HNY.out)⟩
       have HO := Hid.mk hO
       clear hO))
  go_wp2_with fail
  go_ret
  exact ⟨rfl, HO.out.pre (bl2 (Ww.drBw1 w) HB1.out)⟩
end Ww
end Go.Proofs.YtgknolliicachaaDoor
