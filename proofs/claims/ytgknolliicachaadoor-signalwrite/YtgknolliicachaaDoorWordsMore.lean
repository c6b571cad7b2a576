/- What omnibusbig's twin, cmp and plain answer. -/
import Derived.Test.YtgknolliicachaaDoorWordsCell
import Derived.Lib.SliceRun
namespace Go.Proofs.YtgknolliicachaaDoor
open Go.ChangeShapes Go.WideShapes Go.ChangeAt Go.RowKit
namespace Ww
open Wm
theorem isW_ownV {w : World} {base n : Nat} {v : Value} {xs : List Nat} (h : w.ownsRow base 99 1 v n (cellsW xs)) (hok : okW xs) : IsW w v xs := by
  have h0 := h
  obtain ⟨hl, h2⟩ := h
  have hn : xs.length = n := by simpa [cellsW] using hl
  rcases h2 with ⟨rfl, h1⟩ | ⟨g, cap, cur, rfl, hg, hh, hc, hm, hsz, htk⟩
  · have : xs = [] := List.eq_nil_of_length_eq_zero (by omega)
    subst this
    exact isW_nil w
  · refine ⟨some ⟨g, 0, none⟩, cap, by rw [hn], by omega, hm, (fun h => by cases h), fun x hx i hi => ?_, hok⟩
    cases hx
    exact h0.cells rfl i _ (by simp [cellsW, hi])
set_option maxHeartbeats 4000000 in
set_option maxRecDepth 100000 in
/-- a copy, in memory of its own -/
theorem twin_any (va : Value) (xs : List Nat) (w : World) (h : IsW w va xs) (hl : xs.length ≤ 10000) :
    Calls Tryd.prog 78 #[va] w fun e w' => ∃ v', e = .returned v' ∧ IsW w' v' xs ∧ Below w.heap.size w w' := by
  obtain ⟨i0, hi, hz0, hz1, hz2⟩ := info_parts info_u32
  obtain ⟨a, ca, rfl, hca, hma, hna, hcea, hoa⟩ := h
  have HOK := Hid.mk hoa
  cases a with
  | none =>
    have h0 := hna rfl
    have : xs = [] := List.eq_nil_of_length_eq_zero h0
    subst this
    clear hca hma hna hcea hoa h0 hl
    go_enter Tryd.func78, Tryd.ntmps78
    go_wp2_with fail
    go_ret
    exact ⟨_, rfl, isW_nil w, Below.refl _ _⟩
  | some x =>
    by_cases h0 : xs.length = 0
    · have : xs = [] := List.eq_nil_of_length_eq_zero h0
      subst this
      clear hca hma hna hcea hoa h0 hl
      simp only [List.length_nil]
      go_enter Tryd.func78, Tryd.ntmps78
      go_wp2_with fail
      go_ret
      exact ⟨_, rfl, isW_nil w, Below.refl _ _⟩
    · obtain ⟨nA, hnA⟩ : ∃ n, n = xs.length := ⟨_, rfl⟩
      rw [← hnA] at hl hca h0 ⊢
      have hcl : (cellsW xs).length = nA * 1 := by unfold cellsW; rw [List.length_map, ← hnA, Nat.mul_one]
      have hcc : ∀ q u, (cellsW xs)[q]? = some u → w.cell? (x.add q) = some u := by
        intro q u hq
        have hq1 : q < xs.length := by
          rcases Nat.lt_or_ge q xs.length with hh | hh
          · exact hh
          · rw [List.getElem?_eq_none (by unfold cellsW; rw [List.length_map]; exact hh)] at hq; cases hq
        rw [hcea x rfl q hq1]
        simp [cellsW, hq1] at hq
        rw [← hq]; simp [List.getD, hq1]
      have HCC := Hid.mk hcc
      have HCL := Hid.mk hcl
      have HO := Hid.mk (show w.ownsRow w.heap.size 99 1 (.slice none 0 0) 0 [] from World.ownsRow_nil _ _ _ _)
      clear hcea hna hoa hcc hcl hnA
      go_enter Tryd.func78, Tryd.ntmps78
      go_wp2_with (at_builtin; refine wpList_append_own _ rfl (.const (.slice none 0 0)) (.tmp 3) 66 rfl w.heap.size 99 i0 (.int .u32 0) 1 4 Tryd.underlying66 hi hz0 hz1 hz2 rfl (by decide) _ _ _ rfl HO.out x nA ca (cellsW xs) rfl HCL.out HCC.out (by intro u hu; simp [cellsW] at hu; obtain ⟨c, -, rfl⟩ := hu; rfl) (by unfold maxLen; omega) (by omega) (by simp) ?_; intro v3 w3 hown3 hgrow3 hnil3)
      have hown2 : w3.ownsRow w.heap.size 99 1 v3 nA (cellsW xs) := by simpa using hown3
      have hB3 : Below w.heap.size w w3 := Below.grown (Below.refl _ _) hgrow3 (Nat.le_refl _) (fun q hq => by cases hq)
      have HW := Hid.mk (isW_ownV hown2 HOK.out)
      clear hown2 hown3
      go_ret
      exact ⟨_, rfl, HW.out, hB3⟩
theorem drBw (w : World) (n : Nat) : Below w.heap.size w (w.drewN n) := ⟨rfl, rfl, rfl, Nat.le_refl _, fun _ _ => rfl⟩
def cmpN (x y : Nat) : Int := if x < y then -1 else if y < x then 1 else 0
theorem cmp_lt {x y : Nat} (h : x < y) : cmpN x y = -1 := by unfold cmpN; rw [if_pos h]
theorem cmp_gt {x y : Nat} (h : y < x) : cmpN x y = 1 := by unfold cmpN; rw [if_neg (by omega), if_pos h]
theorem cmp_eq (x : Nat) : cmpN x x = 0 := by unfold cmpN; rw [if_neg (by omega), if_neg (by omega)]
theorem len_lt {xs ys : List Nat} (hx : okW xs) (hy : trimW ys) (h : xs.length < ys.length) : valW xs < valW ys := by
  have h1 := valW_lt xs hx
  rcases Nat.lt_or_ge (valW ys) (2 ^ (32 * xs.length)) with h2 | h2
  · have := trimW_len hy xs.length h2; omega
  · omega
theorem val_split (xs : List Nat) (k : Nat) (h : k < xs.length) : valW xs = valW (xs.take k) + 2 ^ (32 * k) * (xs.getD k 0 + 4294967296 * valW (xs.drop (k + 1))) := by
  have e : xs = xs.take k ++ (xs.getD k 0 :: xs.drop (k + 1)) := by
    have h1 : xs.getD k 0 = xs[k] := by simp [List.getD, h]
    rw [h1, ← List.drop_eq_getElem_cons h, List.take_append_drop]
  have h2 := valW_append (xs.take k) (xs.getD k 0 :: xs.drop (k + 1))
  rw [← e, List.length_take, Nat.min_eq_left (by omega), valW] at h2
  exact h2
theorem word_lt {xs ys : List Nat} (hx : okW xs) {k : Nat} (h1 : k < xs.length) (h2 : k < ys.length) (hd : xs.drop (k + 1) = ys.drop (k + 1)) (hlt : xs.getD k 0 < ys.getD k 0) : valW xs < valW ys := by
  have e1 := val_split xs k h1
  have e2 := val_split ys k h2
  rw [hd] at e1
  have h3 := valW_lt (xs.take k) (okW_take hx k)
  rw [List.length_take, Nat.min_eq_left (by omega)] at h3
  have h4 : 2 ^ (32 * k) * (xs.getD k 0 + 4294967296 * valW (ys.drop (k + 1)) + 1) ≤ 2 ^ (32 * k) * (ys.getD k 0 + 4294967296 * valW (ys.drop (k + 1))) := Nat.mul_le_mul_left _ (by omega)
  rw [Nat.mul_add, Nat.mul_one] at h4
  omega
theorem drop_step {xs ys : List Nat} {k : Nat} (h1 : k < xs.length) (h2 : k < ys.length) (hd : xs.drop (k + 1) = ys.drop (k + 1)) (he : xs.getD k 0 = ys.getD k 0) : xs.drop k = ys.drop k := by
  rw [List.drop_eq_getElem_cons h1, List.drop_eq_getElem_cons h2, hd]
  congr 1
  simpa [List.getD, h1, h2] using he
set_option maxHeartbeats 8000000 in
set_option maxRecDepth 100000 in
theorem cmp_any (va vb : Value) (xs ys : List Nat) (w : World) (ha : IsW w va xs) (hb : IsW w vb ys) (hta : trimW xs) (htb : trimW ys) (hla : xs.length ≤ 10000) (_ : ys.length ≤ 10000) :
    Calls Tryd.prog 79 #[va, vb] w fun e w' => e = .returned (.int .i64 (cmpN (valW xs) (valW ys))) ∧ Below w.heap.size w w' := by
  obtain ⟨a, ca, rfl, hca, hma, hna, hcea, hoa⟩ := ha
  obtain ⟨b, cb, rfl, hcb, hmb, hnb, hceb, hob⟩ := hb
  obtain ⟨nA, hnA⟩ : ∃ n, n = xs.length := ⟨_, rfl⟩
  obtain ⟨nB, hnB⟩ : ∃ n, n = ys.length := ⟨_, rfl⟩
  by_cases hlen : xs.length = ys.length
  · have HCA := Hid.mk hcea
    have HCB := Hid.mk hceb
    have HNA := Hid.mk hna
    have HNB := Hid.mk hnb
    have HOA := Hid.mk hoa
    have HOB := Hid.mk hob
    have HLE := Hid.mk hlen
    have hnBA : nB = nA := by omega
    subst hnBA
    rw [← hlen]
    rw [← hnA] at hla ⊢
    have HLA := Hid.mk hnA
    clear hcea hceb hna hnb hoa hob hnA hnB hca hcb hma hmb hta htb hlen
    go_enter Tryd.func79, Tryd.ntmps79
    go_wp2_with fail
    go_loopw [5] (fun i wr => ∃ k : Nat, k ≤ nB ∧ i = .int .i64 ((k : Int) - 1) ∧ Hid (xs.drop k = ys.drop k) ∧ ∃ m, wr = w.drewN m) (fun i _ => (intOf i + 1).toNat)
    case atStart => exact ⟨nB, Nat.le_refl _, rfl, Hid.mk (by rw [List.drop_of_length_le (by have := HLA.out; omega), List.drop_of_length_le (by have := HLA.out; have := HLE.out; omega)]), 0, rfl⟩
    case round =>
      obtain ⟨k, hk, rfl, HD, m, rfl⟩ := hrel
      by_cases h0 : k = 0
      · subst h0
        have hres : cmpN (valW xs) (valW ys) = 0 := by
          have := HD.out
          rw [List.drop_zero, List.drop_zero] at this
          rw [this, cmp_eq]
        have HR := Hid.mk hres
        clear hres
        go_wp2_with fail
        go_ret
        exact ⟨by rw [HR.out]; rfl, drBw w _⟩
      · obtain ⟨q, rfl⟩ : ∃ q, k = q + 1 := ⟨k - 1, by omega⟩
        have hq1 : q < xs.length := by have := HLA.out; omega
        have hq2 : q < ys.length := by have := HLE.out; omega
        cases a with
        | none => exact absurd (HNA.out rfl) (by omega)
        | some x =>
          cases b with
          | none => exact absurd (HNB.out rfl) (by omega)
          | some y =>
            have g1 := HCA.out x rfl q hq1
            have g2 := HCB.out y rfl q hq2
            have HST := Hid.mk (fun he => drop_step hq1 hq2 HD.out he)
            have HLT := Hid.mk (fun hl => word_lt HOA.out hq1 hq2 HD.out hl)
            have HGT := Hid.mk (fun hl => word_lt HOB.out hq2 hq1 HD.out.symm hl)
            generalize xs.getD q 0 = u at *
            generalize ys.getD q 0 = v at *
            have e1 : (((q + 1 : Nat) : Int) - 1).toNat = q := by omega
            have e2 : ((q + 1 : Nat) : Int) - 1 = (q : Int) := by omega
            rw [e2]
            have hqB : (q : Int) < (nB : Int) := by omega
            clear hq1 hq2 e1 e2
            by_cases huv : u = v
            · subst huv
              go_wp2_with fail
              go_quiet (fail)
              go_wp2_with fail
              go_roundw
              case rel => exact ⟨q, by omega, rfl, Hid.mk (HST.out trivial), _, rfl⟩
              case measure => simp [intOf]
            · have hb1 : ((u : Int) != (v : Int)) = true := by simp; omega
              have hb2 : ((u : Int) == (v : Int)) = false := by simp; omega
              rcases Nat.lt_or_ge u v with hl | hl
              · have HR := Hid.mk (cmp_lt (HLT.out hl))
                have hl' : (u : Int) < (v : Int) := by omega
                clear huv
                go_wp2_with fail
                go_quiet (fail)
                go_wp2_with fail
                obtain ⟨W1, hW1⟩ : ∃ W1, W1 = (w.drewN m).drewN nq := ⟨_, rfl⟩
                have HB1 := Hid.mk (show Below w.heap.size w W1 by rw [hW1]; exact Bw.bl2 (drBw w m) (drBw (w.drewN m) _))
                have g3 : W1.cell? (x.add q) = some (.int .u32 (u : Int)) := by rw [hW1]; exact g1
                have g4 : W1.cell? (y.add q) = some (.int .u32 (v : Int)) := by rw [hW1]; exact g2
                rw [← hW1]
                clear hW1 g1 g2
                go_quiet (fail)
                go_wp2_with fail
                go_ret
                exact ⟨by rw [HR.out]; rfl, Bw.bl2 HB1.out (drBw W1 _)⟩
              · have HR := Hid.mk (cmp_gt (HGT.out (by omega)))
                have hl' : (v : Int) < (u : Int) := by omega
                clear huv
                go_wp2_with fail
                go_quiet (fail)
                go_wp2_with fail
                obtain ⟨W1, hW1⟩ : ∃ W1, W1 = (w.drewN m).drewN nq := ⟨_, rfl⟩
                have HB1 := Hid.mk (show Below w.heap.size w W1 by rw [hW1]; exact Bw.bl2 (drBw w m) (drBw (w.drewN m) _))
                have g3 : W1.cell? (x.add q) = some (.int .u32 (u : Int)) := by rw [hW1]; exact g1
                have g4 : W1.cell? (y.add q) = some (.int .u32 (v : Int)) := by rw [hW1]; exact g2
                rw [← hW1]
                clear hW1 g1 g2
                go_quiet (fail)
                go_wp2_with fail
                go_ret
                exact ⟨by rw [HR.out]; rfl, Bw.bl2 HB1.out (drBw W1 _)⟩
  · rcases Nat.lt_or_ge xs.length ys.length with hl | hl
    · rw [cmp_lt (len_lt hoa htb hl)]
      rw [← hnA, ← hnB]
      have hl' : (nA : Int) < (nB : Int) := by omega
      have hne : ((nA : Int) != (nB : Int)) = true := by simp; omega
      clear hcea hceb hna hnb hoa hob hca hcb hma hmb hta htb hla hl hlen hnA hnB
      go_enter Tryd.func79, Tryd.ntmps79
      go_wp2_with fail
      go_ret
      exact ⟨rfl, Below.refl _ _⟩
    · rw [cmp_gt (len_lt hob hta (by omega))]
      rw [← hnA, ← hnB]
      have hl' : (nB : Int) < (nA : Int) := by omega
      have hne : ((nA : Int) != (nB : Int)) = true := by simp; omega
      clear hcea hceb hna hnb hoa hob hca hcb hma hmb hta htb hla hl hlen hnA hnB
      go_enter Tryd.func79, Tryd.ntmps79
      go_wp2_with fail
      go_ret
      exact ⟨rfl, Below.refl _ _⟩
theorem addr0 (p : Addr) : p.add 0 = p := by
  cases p with
  | mk b o t => unfold Addr.add; cases t <;> simp
theorem or_hiW (x y : Nat) (hx : x < 4294967296) (hy : y < 1073741824) : bits .or .u64 (x : Int) ((y : Int) * 4294967296) = (x : Int) + 4294967296 * (y : Int) := by
  have hc : bits .or .u64 (x : Int) ((y : Int) * 4294967296) = bits .or .u64 ((y : Int) * 4294967296) (x : Int) := by simp only [bits, BitVec.or_comm]
  rw [hc, bits_join .u64 63 (by decide) (fun n h0 h1 => by simp only [IntKind.wrap, IntKind.bits, IntKind.signed]; simp; omega) 32 _ _ (by omega) (by omega) (by omega) (by omega) (by omega) (by omega)]
  omega
theorem len_two {xs : List Nat} (ht : trimW xs) (hv : valW xs < 2 ^ 62) : xs.length ≤ 2 := trimW_len ht 2 (Nat.lt_of_lt_of_le hv (Nat.pow_le_pow_right (by omega) (by omega)))
set_option maxHeartbeats 2000000 in
theorem plain_any (va : Value) (xs : List Nat) (w : World) (hW : IsW w va xs) (ht : trimW xs) (hn : valW xs < 2 ^ 62) :
    Calls Tryd.prog 98 #[va] w fun e w' => e = .returned (.int .u64 (valW xs : Int)) ∧ w' = w := by
  have hl := len_two ht hn
  obtain ⟨a, c, rfl, hc, hm, hnil, hcells, hok⟩ := hW
  clear ht
  match xs, hl with
  | [], _ =>
    clear hcells hnil hok hn hm hc
    simp only [List.length_nil, valW]
    go_enter Tryd.func98, Tryd.ntmps98
    go_wp2
    go_ret
    exact ⟨rfl, rfl⟩
  | [x], _ =>
    have hv : valW [x] = x := by simp [valW]
    rw [hv]
    cases a with
    | none => exact absurd (hnil rfl) (by simp)
    | some p =>
      have h0 := hcells p rfl 0 (by simp)
      have hx := hok x (by simp)
      have hx' : (x : Int) ≤ 4294967295 := by omega
      rw [addr0] at h0
      simp only [List.length_singleton, List.getD_cons_zero] at h0 ⊢
      clear hcells hnil hok hv hn hm hc
      go_enter Tryd.func98, Tryd.ntmps98
      go_wp2
      go_ret
      exact ⟨rfl, rfl⟩
  | [x, y], _ =>
    have hv : valW [x, y] = x + 4294967296 * y := by simp [valW]
    rw [hv] at hn ⊢
    cases a with
    | none => exact absurd (hnil rfl) (by simp)
    | some p =>
      have h0 := hcells p rfl 0 (by simp)
      have h1 := hcells p rfl 1 (by simp)
      have hx := hok x (by simp)
      have hy2 : y < 1073741824 := by omega
      have hor := or_hiW x y hx hy2
      have hx' : (x : Int) ≤ 4294967295 := by omega
      have hy' : (y : Int) ≤ 1073741823 := by omega
      rw [addr0] at h0
      simp only [List.length_cons, List.length_nil, List.getD_cons_zero, List.getD_cons_succ] at h0 h1 ⊢
      have h1' : w.cell? ⟨p.block, p.off + 1, none⟩ = some (.int .u32 (y : Int)) := by rw [← h1]; simp [Addr.add]
      clear hcells hnil hok hv hn h1 hm hc
      go_enter Tryd.func98, Tryd.ntmps98
      go_wp2
      go_ret
      exact ⟨rfl, rfl⟩
end Ww
end Go.Proofs.YtgknolliicachaaDoor
