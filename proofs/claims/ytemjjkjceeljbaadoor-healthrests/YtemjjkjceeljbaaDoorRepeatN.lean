/- What slices.Repeat makes of one number: a row of it. -/
import Derived.Test.YtemjjkjceeljbaaDoorBase0
import Derived.Test.YtemjjkjceeljbaaDoorShelfMul
import Derived.Laws.CopyOwn
import Derived.Deep.RegionLaw
import Derived.OwnWalk
namespace Go.Proofs.YtemjjkjceeljbaaDoor
open Go.ChangeShapes Go.WideShapes Go.ChangeAt Go.RowKit
namespace Bw
theorem info_i64 : (Tryd.prog.info? 3).map (fun i => (i.zero, i.size, i.bytes)) = some (some (.int .i64 0), 1, 8) := by kernel_rfl
theorem size_i64 : (Tryd.prog.info? 3).map (·.size) = some 1 := by kernel_rfl
/-- k of them, the rest still 0 -/
def repK (v : Int) (n k : Nat) : List Value := List.replicate k (.int .i64 v) ++ List.replicate (n - k) (.int .i64 0)
theorem repK_len (v : Int) (n k : Nat) (h : k ≤ n) : (repK v n k).length = n := by simp [repK]; omega
theorem repK_splice (v : Int) (n k m : Nat) (h : k + m ≤ n) : splice (repK v n k) k (List.replicate m (Value.int .i64 v)) = repK v n (k + m) := by
  unfold splice repK
  have e1 : (List.replicate k (Value.int .i64 v) ++ List.replicate (n - k) (Value.int .i64 0)).take k = List.replicate k (Value.int .i64 v) := by
    rw [List.take_append_of_le_length (by simp), List.take_of_length_le (by simp)]
  have e2 : (List.replicate k (Value.int .i64 v) ++ List.replicate (n - k) (Value.int .i64 0)).drop (k + (List.replicate m (Value.int .i64 v)).length) = List.replicate (n - (k + m)) (Value.int .i64 0) := by
    rw [List.length_replicate, List.drop_append, List.drop_of_length_le (by simp), List.nil_append, List.length_replicate, List.drop_replicate]
    congr 1
    omega
  rw [e1, e2, ← List.append_assoc, List.replicate_append_replicate]
theorem repK_at (v : Int) (n k j : Nat) (hj : j < k) : (repK v n k)[j]? = some (.int .i64 v) := by
  unfold repK
  rw [List.getElem?_append_left (by simpa using hj), List.getElem?_replicate, if_pos hj]
theorem heap_of_madeI {w : World} {base g m : Nat} (h : w.ownsRow base 3 1 (.slice (some ⟨g, 0, none⟩) m m) m (madeCells (Value.int .i64 0).cells (m * 1)).toList) :
    w.heap[g]? = some (.cells (repK 0 m 0).toArray 3 (0, 0)) := by
  rw [Nat.mul_one, show (Value.int .i64 0).cells = #[Value.int .i64 0] from rfl, toList_madeCells_one] at h
  obtain ⟨hl, h'⟩ := h
  rcases h' with ⟨h0, _⟩ | ⟨g', cap, cur, hv, hb, hh, h1, h2, h3, h4⟩
  · cases h0
  · cases hv
    rw [hh]
    rw [Nat.mul_one] at h3 h4
    have e : cur.toList = List.replicate m (Value.int .i64 0) := by
      rw [← h4]; exact (List.take_of_length_le (by simp; omega)).symm
    have e2 : repK 0 m 0 = cur.toList := by rw [e]; simp [repK]
    rw [e2]
theorem repK_zero (v : Int) (n : Nat) : repK 0 n 0 = repK v n 0 := by simp [repK]
theorem sizeOfI0 (W : World) : (sizeOf 3).run Tryd.prog W = .ok 1 W := by
  have h := size_i64
  cases hi : Tryd.prog.info? 3 with
  | none => rw [hi] at h; cases h
  | some i =>
    rw [hi] at h
    have h1 : i.size = 1 := by simpa using h
    simp [sizeOf, typeInfo, hi, h1]
theorem slHi (g n k : Nat) (hk : k < n) (W : World) : (Instr.slice 24 (.slice (some ⟨g, 0, none⟩) n n) (some (.int .i64 (k : Int))) none none).run Tryd.prog W = .ok (.slice (some ⟨g, k, none⟩) (n - k) (n - k)) W := by
  rw [run_slice_l W 24 (some ⟨g, 0, none⟩) n n (by kernel_rfl) .i64 (k : Int) (by omega) (by omega)]
  have e : Tryd.prog.elem 24 = 3 := by kernel_rfl
  rw [e, sizeOfI0 W]
  simp only [Result.andThen_ok, sliced, Int.toNat_natCast, Nat.mul_one, Option.map_some]
  rw [if_neg (by omega)]
  simp [Addr.add]
  exact fun h => h.symm
theorem slLo (g n k : Nat) (hk : k ≤ n) (W : World) : (Instr.slice 24 (.slice (some ⟨g, 0, none⟩) n n) none (some (.int .i64 (k : Int))) none).run Tryd.prog W = .ok (.slice (some ⟨g, 0, none⟩) k n) W := by
  rw [run_slice_h W 24 (some ⟨g, 0, none⟩) n n (by kernel_rfl) .i64 (k : Int) (by omega) (by omega)]
  have e : Tryd.prog.elem 24 = 3 := by kernel_rfl
  rw [e, sizeOfI0 W]
  simp only [Result.andThen_ok, sliced, Int.toNat_natCast, Nat.zero_mul, Option.map_some, Nat.sub_zero]
  simp [Addr.add]
set_option maxHeartbeats 4000000 in
set_option maxRecDepth 100000 in
theorem repeatN_any (v : Int) (gx n : Nat) (w : World) (h1 : 1 ≤ n) (hn : n ≤ 128) (hx : w.cell? ⟨gx, 0, none⟩ = some (.int .i64 v)) :
    Calls Tryd.prog 14 #[.slice (some ⟨gx, 0, none⟩) 1 1, .int .i64 n] w fun e w' => ∃ g, e = .returned (.slice (some ⟨g, 0, none⟩) n n) ∧ w'.heap[g]? = some (.cells (List.replicate n (Value.int .i64 v)).toArray 3 (0, 0)) ∧ w.heap.size ≤ g ∧ Below w.heap.size w w' := by
  obtain ⟨i0, hi, hz0, hz1, hz2⟩ := info_parts info_i64
  have HM := Hid.mk (fun W => Tryd.bits_Mul 1 n (by omega) (by omega) W)
  have e1 : 1 * n / 18446744073709551616 = 0 := by omega
  have e2 : 1 * n % 18446744073709551616 = n := by omega
  rw [e1, e2] at HM
  have HX := Hid.mk hx
  clear e1 e2 hx
  go_enter Tryd.func14, Tryd.ntmps14
  go_wp2_with fail
  refine (HM.out _).mono ?_
  rintro e w1 ⟨rfl, hw1⟩
  subst hw1
  have HV1 := Hid.mk (show ∀ u ∈ [Value.int .i64 v], u.oneCell' = true by intro u hu; simp at hu; subst hu; rfl)
  have HS1 := Hid.mk (show splice (repK 0 n 0) 0 [Value.int .i64 v] = repK v n 1 by
    have := repK_splice v n 0 1 (by omega)
    rw [← repK_zero v n] at this
    simpa using this)
  have HMN := Hid.mk (show [Value.int .i64 v].length = Nat.min 1 n from (Nat.min_eq_left h1).symm)
  have HFT := Hid.mk (show 0 + [Value.int .i64 v].length ≤ (repK 0 n 0).length by rw [repK_len 0 n 0 (Nat.zero_le _)]; simpa using h1)
  go_wp2_with (first
    | (at_make; refine wpList_make_full _ rfl (.tmp 29) (.tmp 29) 24 rfl w1.heap.size 3 i0 (.int .i64 0) 1 Tryd.underlying24 hi hz0 hz1 .i64 .i64 _ _ n rfl rfl (by omega) (by omega) (by rw [hz2]; omega) (by unfold maxLen; omega) (Nat.le_refl _) ?_; intro w2 hown hgrow
       have hb2 : Below w1.heap.size w1 w2 := Below.grown (Below.refl _ _) hgrow (Nat.le_refl _) (fun q hq => by cases hq)
       have HX2 := Hid.mk (cell_kept hb2 HX.out)
       have HG2 := Hid.mk (heap_of_madeI hown)
       clear hown hgrow)
    | (with_reducible show wpList _ _ _ (Oper.mk (some 33) _ _ _ _ _ :: _) _ _
       refine wpList_copy_splice rfl (.tmp 31) (.tmp 32) 24 24 rfl 3 Tryd.underlying24 size_i64 (some ⟨w1.heap.size, 0, none⟩) (some ⟨gx, 0, none⟩) n n 1 1 rfl rfl w1.heap.size 0 (repK 0 n 0) 3 HG2.out [Value.int .i64 v] HMN.out (fun _ => ⟨rfl, _, rfl, by intro j u hj; match j, hj with | 0, hj => (simp at hj; subst hj; simpa [Addr.add] using HX2.out)⟩) HFT.out HV1.out w1.heap.size w1 hb2 (Nat.le_refl _) ?_; intro w3 HG3 hb3))
  rw [HS1.out] at HG3
  have HB3 := Hid.mk hb3
  go_loopw [8] (fun i wr => ∃ k : Nat, 1 ≤ k ∧ k ≤ n ∧ i = .int .i64 k ∧ Hid (wr.heap[w1.heap.size]? = some (.cells (repK v n k).toArray 3 (0, 0))) ∧ Hid (Below w1.heap.size w1 wr)) (fun i _ => n - (intOf i).toNat)
  case atStart => exact ⟨1, Nat.le_refl _, h1, rfl, HG3, HB3⟩
  case round =>
    clear HG3 HB3 hb3
    obtain ⟨k, hk1, hk, rfl, HG, HB⟩ := hrel
    by_cases hlt : k < n
    · have hlt' : (k : Int) < (n : Int) := by omega
      obtain ⟨m, hm⟩ : ∃ m, m = Nat.min k (n - k) := ⟨_, rfl⟩
      have hm1 : k + m ≤ n := by
        have h2 : Nat.min k (n - k) ≤ n - k := Nat.min_le_right k (n - k)
        omega
      have hm0 : 1 ≤ m := by rw [hm]; exact Nat.le_min.2 ⟨hk1, by omega⟩
      have hmk : m ≤ k := by rw [hm]; exact Nat.min_le_left _ _
      have hs1 := slHi w1.heap.size n k hlt
      have hs2 := slLo w1.heap.size n k hk
      have HML := Hid.mk (show (List.replicate m (Value.int .i64 v)).length = Nat.min k (n - k) by rw [List.length_replicate, hm])
      have HSR := Hid.mk (show ∀ j u, (List.replicate m (Value.int .i64 v))[j]? = some u → wr.cell? ((⟨w1.heap.size, 0, none⟩ : Addr).add j) = some u by
        intro j u hj
        have hjm : j < m := by
          rcases Nat.lt_or_ge j m with x | x
          · exact x
          · rw [List.getElem?_eq_none (by simpa using x)] at hj; cases hj
        rw [List.getElem?_replicate, if_pos hjm] at hj
        cases hj
        have e : ((⟨w1.heap.size, 0, none⟩ : Addr).add j) = ⟨w1.heap.size, j, none⟩ := by simp [Addr.add]; exact fun h => h.symm
        rw [e, cell_of_row wr w1.heap.size j _ _ _ HG.out, List.getElem?_toArray]
        exact repK_at v n k j (by omega))
      have HFI := Hid.mk (show k + (List.replicate m (Value.int .i64 v)).length ≤ (repK v n k).length by rw [repK_len v n k hk, List.length_replicate]; exact hm1)
      have HO1 := Hid.mk (show ∀ u ∈ List.replicate m (Value.int .i64 v), u.oneCell' = true by intro u hu; rw [(List.mem_replicate.1 hu).2]; rfl)
      have HSP := Hid.mk (repK_splice v n k m hm1)
      have HLN := Hid.mk (show (List.replicate m (Value.int .i64 v)).length = m by simp)
      go_wp2_with fail
      go_region_law (refine step_copy_splice rfl (.tmp 41) (.tmp 44) 24 24 rfl 3 Tryd.underlying24 size_i64 (some ⟨w1.heap.size, k, none⟩) (some ⟨w1.heap.size, 0, none⟩) (n - k) (n - k) k n (by simp [Act.eval, Act.put]) (by simp [Act.eval, Act.put]) w1.heap.size k (repK v n k) 3 HG.out (List.replicate m (Value.int .i64 v)) HML.out (fun _ => ⟨rfl, _, rfl, HSR.out⟩) HFI.out HO1.out w1.heap.size w1 (show Below w1.heap.size w1 _ from HB.out.drew) (Nat.le_refl _) ?_; intro w4 hg4 hb4)
      all_goals focus
        rw [HSP.out] at hg4
        have HB4 := Hid.mk hb4
        clear hs1 hs2 hb4
        go_wp2
        have hwr : IntKind.i64.wrap ((k : Int) + ((Nat.min k (n - k) : Nat) : Int)) = ((k + m : Nat) : Int) := by
          rw [← hm, IntKind.wrap_i64]; omega
        refine ⟨⟨_, _, _, _, _, _, _, _, _, _, _, _, _, _, ?rel, rfl⟩, ?meas⟩
        case rel => exact ⟨k + m, by omega, hm1, by rw [← hwr], hg4, HB4⟩
        case meas =>
          show n - (intOf (Value.int .i64 (IntKind.i64.wrap ((k : Int) + ((Nat.min k (n - k) : Nat) : Int))))).toNat < n - (intOf (Value.int .i64 (k : Int))).toNat
          rw [hwr]
          simp [intOf]
          omega
    · have e : k = n := by omega
      subst e
      have hfin := HG.out
      rw [show repK v k k = List.replicate k (Value.int .i64 v) by simp [repK]] at hfin
      have HFI := Hid.mk hfin
      clear hfin
      go_wp2_with fail
      go_ret
      exact ⟨_, rfl, HFI.out, Nat.le_refl _, HB.out⟩
end Bw
end Go.Proofs.YtemjjkjceeljbaaDoor
