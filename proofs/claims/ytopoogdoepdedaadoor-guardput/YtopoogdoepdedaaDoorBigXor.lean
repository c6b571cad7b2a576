/- What omnibusbig's Xor answers of numbers from 0 on. -/
import Derived.Test.YtopoogdoepdedaaDoorBigLow
namespace Go.Proofs.YtopoogdoepdedaaDoor
open Go.ChangeShapes Go.WideShapes Go.ChangeAt Go.RowKit
namespace Ww
open Wm Bm

theorem xor_word (x y A B : Nat) (hx : x < 4294967296) (hy : y < 4294967296) : (x + 4294967296 * A) ^^^ (y + 4294967296 * B) = (x ^^^ y) + 4294967296 * (A ^^^ B) := by
  have e : (4294967296 : Nat) = 2 ^ 32 := rfl
  have hxy : x ^^^ y < 4294967296 := by rw [e] at *; exact Nat.xor_lt_two_pow hx hy
  have h1 : ((x + 4294967296 * A) ^^^ (y + 4294967296 * B)) % 4294967296 = x ^^^ y := by
    have := Nat.xor_mod_two_pow (a := x + 4294967296 * A) (b := y + 4294967296 * B) (n := 32)
    rw [← e] at this
    rw [this, Nat.add_mul_mod_self_left, Nat.add_mul_mod_self_left, Nat.mod_eq_of_lt hx, Nat.mod_eq_of_lt hy]
  have h2 : ((x + 4294967296 * A) ^^^ (y + 4294967296 * B)) / 4294967296 = A ^^^ B := by
    have := Nat.xor_div_two_pow (a := x + 4294967296 * A) (b := y + 4294967296 * B) (n := 32)
    rw [← e] at this
    rw [this]
    have ea : (x + 4294967296 * A) / 4294967296 = A := by omega
    have eb : (y + 4294967296 * B) / 4294967296 = B := by omega
    rw [ea, eb]
  have := Nat.div_add_mod ((x + 4294967296 * A) ^^^ (y + 4294967296 * B)) 4294967296
  rw [h1, h2] at this
  omega
def xorW : List Nat → List Nat → List Nat
  | x :: xs, y :: ys => (x ^^^ y) :: xorW xs ys
  | _, _ => []
theorem xorW_len : ∀ (a b : List Nat), a.length = b.length → (xorW a b).length = a.length
  | [], [], _ => rfl
  | [], _ :: _, h => by cases h
  | _ :: _, [], h => by cases h
  | x :: xs, y :: ys, h => by rw [xorW, List.length_cons, List.length_cons, xorW_len xs ys (by simpa using h)]
theorem xorW_val : ∀ (a b : List Nat), a.length = b.length → okW a → okW b → valW (xorW a b) = valW a ^^^ valW b
  | [], [], _, _, _ => rfl
  | [], _ :: _, h, _, _ => by cases h
  | _ :: _, [], h, _, _ => by cases h
  | x :: xs, y :: ys, h, ha, hb => by
    rw [xorW, valW, valW, valW, xorW_val xs ys (by simpa using h) (fun z hz => ha z (List.mem_cons_of_mem _ hz)) (fun z hz => hb z (List.mem_cons_of_mem _ hz)),
      xor_word x y _ _ (ha x List.mem_cons_self) (hb y List.mem_cons_self)]
theorem xorW_get : ∀ (a b : List Nat) (i : Nat), a.length = b.length → (xorW a b).getD i 0 = a.getD i 0 ^^^ b.getD i 0
  | [], [], i, _ => by simp [xorW]
  | [], _ :: _, _, h => by cases h
  | _ :: _, [], _, h => by cases h
  | x :: xs, y :: ys, 0, _ => by simp [xorW]
  | x :: xs, y :: ys, i + 1, h => by
    have := xorW_get xs ys i (by simpa using h)
    rw [xorW, List.getD_cons_succ, List.getD_cons_succ, List.getD_cons_succ, this]
theorem xorW_ok (a b : List Nat) (h : a.length = b.length) (ha : okW a) (hb : okW b) : okW (xorW a b) := by
  intro z hz
  obtain ⟨i, hi, rfl⟩ := List.mem_iff_getElem.1 hz
  have e := xorW_get a b i h
  have e2 : (xorW a b).getD i 0 = (xorW a b)[i] := by simp [List.getD, hi]
  rw [← e2, e]
  exact Nat.xor_lt_two_pow (n := 32) (okW_getD ha i) (okW_getD hb i)
/-- the first k words are turned by the others -/
def xorK (a b : List Nat) (k : Nat) : List Nat := (xorW a b).take k ++ a.drop k
theorem xorK_len (a b : List Nat) (k : Nat) (h : a.length = b.length) (hk : k ≤ a.length) : (xorK a b k).length = a.length := by
  unfold xorK
  rw [List.length_append, List.length_take, xorW_len a b h, List.length_drop]; omega
theorem xorK_at (a b : List Nat) (k : Nat) (h : a.length = b.length) (hk : k < a.length) : (xorK a b k).getD k 0 = a.getD k 0 := by
  unfold xorK
  have hl : ((xorW a b).take k).length = k := by rw [List.length_take, xorW_len a b h]; omega
  simp only [List.getD]
  rw [List.getElem?_append_right (by omega), hl, Nat.sub_self, List.getElem?_drop, Nat.add_zero]
theorem xorK_set (a b : List Nat) (k : Nat) (h : a.length = b.length) (hk : k < a.length) : (xorK a b k).set k (a.getD k 0 ^^^ b.getD k 0) = xorK a b (k + 1) := by
  unfold xorK
  have hw := xorW_len a b h
  have hl : ((xorW a b).take k).length = k := by rw [List.length_take, hw]; omega
  rw [List.set_append_right _ _ (by omega), hl, Nat.sub_self, take_snocN (xorW a b) k (by omega), xorW_get a b k h, List.append_assoc]
  congr 1
  rw [List.drop_eq_getElem_cons hk]
  rfl
theorem xorK_full (a b : List Nat) (h : a.length = b.length) : xorK a b a.length = xorW a b := by
  unfold xorK
  rw [List.drop_length, List.append_nil, List.take_of_length_le (by rw [xorW_len a b h]; omega)]
theorem valW_pad (xs : List Nat) (k : Nat) : valW (xs ++ List.replicate k 0) = valW xs := by rw [valW_append, valW_zeros]; simp
theorem okW_pad {xs : List Nat} (h : okW xs) (k : Nat) : okW (xs ++ List.replicate k 0) := okW_append h (fun x hx => by rw [List.eq_of_mem_replicate hx]; omega)
theorem pad_len (xs : List Nat) (m : Nat) (h : xs.length ≤ m) : (xs ++ List.replicate (m - xs.length) 0).length = m := by rw [List.length_append, List.length_replicate]; omega
theorem pad_top (xs : List Nat) (m : Nat) (h : xs.length ≤ m) : (xs ++ List.replicate (m + 1 - xs.length) 0).getD m 0 = 0 := by
  simp only [List.getD]
  rw [List.getElem?_append_right h]
  simp [List.getElem?_replicate]
  split <;> rfl

set_option maxHeartbeats 8000000 in
theorem xor_any (gz gx gy nx ny : Nat) (w : World) (hx : IsInt w gx nx) (hy : IsInt w gy ny) (hz : isStruct w gz) (hnx : nx < 2 ^ 5000) (hny : ny < 2 ^ 5000) :
    Calls Tryd.prog 32 #[.pointer (some ⟨gz, 0, none⟩), .pointer (some ⟨gx, 0, none⟩), .pointer (some ⟨gy, 0, none⟩)] w fun e w' => e = .returned (.pointer (some ⟨gz, 0, none⟩)) ∧ IsInt w' gz (nx ^^^ ny) ∧ Touch gz w w' := by
  obtain ⟨va, xs, hxh, hxW, hxt, hxv⟩ := hx
  obtain ⟨vb, ys, hyh, hyW, hyt, hyv⟩ := hy
  have hxl : xs.length ≤ 157 := len_of_val hxt hxv 5000 hnx 157 (by omega)
  have hyl : ys.length ≤ 157 := len_of_val hyt hyv 5000 hny 157 (by omega)
  have HXW := Hid.mk hxW
  have HYW := Hid.mk hyW
  have HXH := Hid.mk hxh
  have HYH := Hid.mk hyh
  have HZ := Hid.mk hz
  have HXV := Hid.mk hxv
  have HYV := Hid.mk hyv
  obtain ⟨a, ca, rfl, hra⟩ := hxW
  obtain ⟨b, cb, rfl, hrb⟩ := hyW
  have hcx := cell_of_row w gx 1 _ _ _ hxh
  have hcy := cell_of_row w gy 1 _ _ _ hyh
  simp only [List.getElem?_toArray, List.getElem?_cons_zero, List.getElem?_cons_succ] at hcx hcy
  have hox : okW xs := hra.2.2.2.2
  have hoy : okW ys := hrb.2.2.2.2
  have HOX := Hid.mk hox
  have HOY := Hid.mk hoy
  have hcase : ∃ N : Nat, xs.length + 1 ≤ N ∧ ys.length + 1 ≤ N ∧ N ≤ 158 ∧ (((xs.length : Int) < (ys.length : Int) ∧ (ys.length : Int) + 1 = (N : Int)) ∨ ((ys.length : Int) ≤ (xs.length : Int) ∧ (xs.length : Int) + 1 = (N : Int))) := by
    by_cases h : xs.length < ys.length
    · exact ⟨ys.length + 1, by omega, by omega, by omega, .inl ⟨by omega, by omega⟩⟩
    · exact ⟨xs.length + 1, by omega, by omega, by omega, .inr ⟨by omega, by omega⟩⟩
  obtain ⟨N, hN1, hN2, hN3, hcase⟩ := hcase
  have hXl := pad_len xs N (by omega)
  have hYl := pad_len ys N (by omega)
  have hXo := okW_pad hox (N - xs.length)
  have hYo := okW_pad hoy (N - ys.length)
  have hXv := valW_pad xs (N - xs.length)
  have hYv := valW_pad ys (N - ys.length)
  have hXt : (xs ++ List.replicate (N - xs.length) 0).getD (N - 1) 0 = 0 := by
    obtain ⟨q, rfl⟩ : ∃ q, N = q + 1 := ⟨N - 1, by omega⟩
    exact pad_top xs q (by omega)
  have hYt : (ys ++ List.replicate (N - ys.length) 0).getD (N - 1) 0 = 0 := by
    obtain ⟨q, rfl⟩ : ∃ q, N = q + 1 := ⟨N - 1, by omega⟩
    exact pad_top ys q (by omega)
  have hlowx := fun W h1 h2 => low_any gx N (.slice a xs.length ca) xs W h1 h2 (by omega) (by omega)
  have hlowy := fun W h1 h2 => low_any gy N (.slice b ys.length cb) ys W h1 h2 (by omega) (by omega)
  generalize xs ++ List.replicate (N - xs.length) 0 = XA at *
  generalize ys ++ List.replicate (N - ys.length) 0 = YB at *
  have HXl := Hid.mk hXl
  have HYl := Hid.mk hYl
  have HXo := Hid.mk hXo
  have HYo := Hid.mk hYo
  have HXv := Hid.mk hXv
  have HYv := Hid.mk hYv
  have HXt := Hid.mk hXt
  have HYt := Hid.mk hYt
  have HLX := Hid.mk hlowx
  have HLY := Hid.mk hlowy
  clear hnx hny hra hrb hxh hyh hz hxv hyv hxt hyt hox hoy hXl hYl hXo hYo hXv hYv hXt hYt hlowx hlowy
  go_enter Tryd.func32, Tryd.ntmps32
  rcases hcase with ⟨hle, hNe⟩ | ⟨hle, hNe⟩
  all_goals focus
    have HNE := Hid.mk hNe
    clear hNe
    go_wp2_with fail
    go_quiet (fail)
    go_wp2_with fail
    rw [HNE.out]
    have hXd : (w.drewN nq).heap[gx]? = some (.cells #[.bool false, .slice a xs.length ca] 58 (0, 0)) := HXH.out
    have hYd : (w.drewN nq).heap[gy]? = some (.cells #[.bool false, .slice b ys.length cb] 58 (0, 0)) := HYH.out
    have hXw : IsW (w.drewN nq) (.slice a xs.length ca) xs := HXW.out
    have hYw : IsW (w.drewN nq) (.slice b ys.length cb) ys := HYW.out
    have hgl : gy < (w.drewN nq).heap.size := by
      rcases Nat.lt_or_ge gy (w.drewN nq).heap.size with h | h
      · exact h
      · rw [Array.getElem?_eq_none h] at hYd; cases hYd
    refine (HLX.out (w.drewN nq) hXd hXw).mono ?_
    rintro e w1 ⟨rfl, hownA, hb1⟩
    have hly := HLY.out w1 (by rw [hb1.block gy hgl]; exact hYd) (hYw.below hb1)
    have HLY1 := Hid.mk hly
    have hbw1 : Below w.heap.size w w1 := ⟨hb1.os, hb1.tape, hb1.output, hb1.size, fun k hk => hb1.block k hk⟩
    have hownA1 : w1.ownsRow w.heap.size 99 1 (.slice (some ⟨w.heap.size, 0, none⟩) N N) N (cellsW XA) := hownA
    have hlt1 : w.heap.size < w1.heap.size := (hownA1.lt w.heap.size rfl).2
    clear hXd hYd hXw hYw hgl hownA hb1 hly
    go_wp2_with fail
    refine HLY1.out.mono ?_
    rintro e w2 ⟨rfl, hownB, hb2⟩
    have hownA2 := Bw.ownsRow_below hownA1 hb2
    have hbw2 : Below w.heap.size w w2 := hbw1.trans (hb2.mono (Nat.le_of_lt hlt1))
    clear hownA1 hb2 hbw1 HLY1
    go_wp2_with fail
    go_loopw [10] (fun i wr => ∃ k : Nat, k ≤ N ∧ i = .int .i64 k ∧ wr.ownsRow w.heap.size 99 1 (.slice (some ⟨w.heap.size, 0, none⟩) N N) N (cellsW (xorK XA YB k)) ∧
        wr.ownsRow w1.heap.size 99 1 (.slice (some ⟨w1.heap.size, 0, none⟩) N N) N (cellsW YB) ∧ Below w.heap.size w wr) (fun i _ => N - (intOf i).toNat)
    case atStart => exact ⟨0, Nat.zero_le _, rfl, by rw [show xorK XA YB 0 = XA by simp [xorK]]; exact hownA2, hownB, hbw2⟩
    case round =>
      clear hownA2 hownB hbw2
      obtain ⟨k, hk, rfl, hownA, hownB, hbel⟩ := hrel
      by_cases hlt : k < N
      · have hlt' : (k : Int) < (N : Int) := by omega
        have hcA := hownA.cellAt k (by omega)
        have hfA := hownA.frozenAt k
        have hcB := hownB.cellAt k (by omega)
        rw [cellsW_get _ k (by rw [xorK_len _ _ _ (by rw [HXl.out, HYl.out]) (by rw [HXl.out]; omega), HXl.out]; exact hlt), xorK_at _ _ _ (by rw [HXl.out, HYl.out]) (by rw [HXl.out]; exact hlt)] at hcA
        rw [cellsW_get _ k (by rw [HYl.out]; exact hlt)] at hcB
        have hxk := okW_getD HXo.out k
        have hyk := okW_getD HYo.out k
        have hset := xorK_set XA YB k (by rw [HXl.out, HYl.out]) (by rw [HXl.out]; exact hlt)
        obtain ⟨xk, hxE⟩ : ∃ xk, xk = XA.getD k 0 := ⟨_, rfl⟩
        obtain ⟨yk, hyE⟩ : ∃ yk, yk = YB.getD k 0 := ⟨_, rfl⟩
        rw [← hxE] at hcA hxk hset
        rw [← hyE] at hcB hyk hset
        have hxr := u32_xor_nat xk yk hxk hyk
        obtain ⟨z, hzE⟩ : ∃ z, z = xk ^^^ yk := ⟨_, rfl⟩
        rw [← hzE] at hxr hset
        have hst := hownA.stored k (.int .u32 (z : Int))
        rw [cellsW_setAt, hset] at hst
        have hB2 := hownB.kept hst.2 (.inr (by simp [Value.ownBlock]; omega))
        have hbel2 := hbel.grown hst.2 hbel.size (fun q hq => by cases hq; exact Nat.le_refl _)
        have HA2 := Hid.mk hst.1
        have HB2 := Hid.mk hB2
        clear hxE hyE hzE hset hst hB2 hownA hownB hxk hyk hbel
        go_wp2_with fail
        go_region
        all_goals focus
          go_wp2_with fail
          go_roundw
          case rel => exact ⟨k + 1, by omega, by go_num, HA2.out.drew, HB2.out.drew, hbel2.drew⟩
          case measure => simp [intOf]; omega
      · have e : k = N := by omega
        subst e
        have hWA : IsW wr (.slice (some ⟨w.heap.size, 0, none⟩) k k) (xorK XA YB k) := isW_own hownA (by rw [xorK_len _ _ _ (by rw [HXl.out, HYl.out]) (by rw [HXl.out]; omega), HXl.out]) (by unfold maxLen; omega) (by
          rw [show xorK XA YB k = xorW XA YB by rw [← HXl.out]; exact xorK_full XA YB (by rw [HXl.out, HYl.out])]
          exact xorW_ok XA YB (by rw [HXl.out, HYl.out]) HXo.out HYo.out)
        rw [show xorK XA YB k = xorW XA YB by rw [← HXl.out]; exact xorK_full XA YB (by rw [HXl.out, HYl.out])] at hWA
        have hlw : (xorW XA YB).length = k := by rw [xorW_len _ _ (by rw [HXl.out, HYl.out]), HXl.out]
        have hof := of_any gz _ (xorW XA YB) wr (isStruct.below HZ.out hbel) hWA (by omega) (by omega) (by rw [hlw, xorW_get _ _ _ (by rw [HXl.out, HYl.out]), HXt.out, HYt.out]; decide)
        rw [xorW_val _ _ (by rw [HXl.out, HYl.out]) HXo.out HYo.out, HXv.out, HYv.out, HXV.out, HYV.out] at hof
        have HOF := Hid.mk hof
        clear hWA hlw hof hownA hownB
        go_wp2_with fail
        refine HOF.out.mono ?_
        rintro e w3 ⟨rfl, hI, ht⟩
        have HI := Hid.mk hI
        clear hI
        go_wp2_with fail
        go_ret
        exact ⟨rfl, HI.out, (Touch.of_below hbel).trans ht⟩
end Ww
end Go.Proofs.YtopoogdoepdedaaDoor
