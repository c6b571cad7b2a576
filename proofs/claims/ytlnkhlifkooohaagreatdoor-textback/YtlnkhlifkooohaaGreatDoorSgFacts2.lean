/- What is read of a signal can be written again; Read in one sentence; bits of two bytes that are turned by one another. -/
import Derived.Test.YtlnkhlifkooohaaGreatDoorSgFacts
namespace Go.Proofs.YtlnkhlifkooohaaGreatDoor
open Go.ChangeShapes Go.WideShapes Go.ChangeAt Go.RowKit Go.Sort
namespace Bw
open Sm
theorem denL_le {n d : Int} (hd : 0 < d) : denL n d ≤ d := by
  have e := (low_mul (n := n) (d := d)).2
  have h1 := denL_pos (n := n) hd
  have h2 := gcd_pos (n := n) hd
  have h3 : 1 * denL n d ≤ (Int.gcd n d : Int) * denL n d := Int.mul_le_mul_of_nonneg_right (by omega) (by omega)
  omega
/-- what a raw number means is written as that raw number -/
theorem back_frac {s : Sig} {st sz n : Nat} (hR : Rt s st sz n) {R : Int} (h1 : lowS s.sg sz ≤ R) (h2 : R ≤ highS s.sg sz) (hN1 : -1099511627776 ≤ numL (meanN s R) s.di) (hN2 : numL (meanN s R) s.di ≤ 1099511627776) :
    rawE s sz (numL (meanN s R) s.di) (denL (meanN s R) s.di) = 0 ∧ rawV s (numL (meanN s R) s.di) (denL (meanN s R) s.di) = R := by
  have hdi : 0 < s.di := by have := hR.di1; omega
  have e := low_mul (n := meanN s R) (d := s.di)
  have hD := denL_pos (n := meanN s R) hdi
  have hDl := denL_le (n := meanN s R) hdi
  have hM : meanN s R = R * s.mu + s.ad * s.di := rfl
  generalize numL (meanN s R) s.di = N at *
  generalize denL (meanN s R) s.di = D at *
  have hX : N * s.di = meanN s R * D := by
    obtain ⟨e1, e2⟩ := e
    generalize (Int.gcd (meanN s R) s.di : Int) = G at *
    rw [e2, e1, ← Int.mul_assoc, Int.mul_comm N G]
  have hw : wholeI s N D = R * partI s D := by
    unfold wholeI partI
    rw [Int.sub_mul, hX, hM, Int.add_mul, Int.mul_assoc s.ad D, Int.mul_comm D s.di, ← Int.mul_assoc s.ad, Int.add_sub_cancel, Int.mul_assoc, Int.mul_comm s.mu]
  have hf : fracB N D = true := by
    unfold fracB
    rw [inB_yes (by have := hR.di2; omega), inB_yes ⟨hN1, hN2⟩]
    rfl
  have hp := (whole_bound hR hf).2.2.2
  have hv : (wholeI s N D).tdiv (partI s D) = R := by rw [hw]; exact Int.mul_tdiv_cancel _ hp
  refine ⟨?_, hv⟩
  unfold rawE
  rw [if_neg (by rw [hf]; simp), if_neg (by rw [hw, Int.mul_tmod_left]; simp), if_neg (by rw [hv, inB_yes ⟨h1, h2⟩]; simp)]
theorem rawR_span {s : Sig} {st sz n : Nat} (hR : Rt s st sz n) (l : List UInt8) : lowS s.sg sz ≤ rawR s st sz l ∧ rawR s st sz l ≤ highS s.sg sz := by
  unfold rawR
  refine rawS_span hR.s1 (by omega) ?_
  have h := uN_lt s.bk st sz l
  have e : ((2 ^ sz : Nat) : Int) = 2 ^ sz := by simp
  rw [← e]
  omega
/-- Read, in one sentence -/
theorem sread_spec (s : Sig) (a : Option Addr) (len cap : Nat) (l : List UInt8) (w : World) (h : wfS s) (hD : IsBytes w a len cap l) :
    Calls Tryz.prog 86 #[sgV s, .slice a len cap] w fun e w' => Below w.heap.size w w' ∧
      ((∃ E, E ≠ 0 ∧ chkS s len ≠ 0 ∧ e = .returned (.tuple #[.int .i64 0, rdV ⟨#[]⟩ 0 0, .int .i64 E])) ∨
       (chkS s len = 0 ∧ ∃ st sz, Rt s st sz len ∧ e = .returned (.tuple #[.int .i64 (rawR s st sz l), rdV s.nm (numL (meanN s (rawR s st sz l)) s.di) (denL (meanN s (rawR s st sz l)) s.di), .int .i64 0]))) := by
  have hlen : len ≤ maxLen := Nat.le_trans hD.2.1 hD.2.2.1
  by_cases hE : chkS s len = 0
  · obtain ⟨st, sz, hR⟩ := right_of hE
    refine (sread_ok s st sz a len cap l w h hD hE hR).mono ?_
    rintro e w' ⟨h1, h2⟩
    exact ⟨h2, .inr ⟨hE, st, sz, hR, h1⟩⟩
  · refine (sread_bad s a len cap w h hlen hE).mono ?_
    rintro e w' ⟨h1, h2⟩
    exact ⟨h2, .inl ⟨_, hE, hE, h1⟩⟩
theorem xor_u8 {a b : Nat} (ha : a < 256) (hb : b < 256) : bits .xor .u8 (a : Int) (b : Int) = ((a ^^^ b : Nat) : Int) := by
  have e : IntKind.u8.bits = 8 := rfl
  have ha' : a % 2 ^ 8 = a := Nat.mod_eq_of_lt (by omega)
  have hb' : b % 2 ^ 8 = b := Nat.mod_eq_of_lt (by omega)
  have hx : a ^^^ b < 2 ^ 8 := Nat.xor_lt_two_pow (by omega) (by omega)
  simp only [bits, BitVec.ofInt_natCast, BitVec.toNat_xor, BitVec.toNat_ofNat, e, ha', hb']
  simp only [IntKind.wrap, IntKind.bits, IntKind.signed]
  simp
  omega
theorem xor_bit (a b k : Nat) : (a ^^^ b) / 2 ^ k % 2 = if a / 2 ^ k % 2 = b / 2 ^ k % 2 then 0 else 1 := by
  rw [← Nat.toNat_testBit, ← Nat.toNat_testBit, ← Nat.toNat_testBit, Nat.testBit_xor]
  cases a.testBit k <;> cases b.testBit k <;> rfl
/-- are the two bits not alike? -/
theorem xor_and {a b k : Nat} (ha : a < 256) (hb : b < 256) (hk : k < 8) : bits .and .u8 (bits .xor .u8 (a : Int) (b : Int) / 2 ^ k) 1 = ((if a / 2 ^ k % 2 = b / 2 ^ k % 2 then 0 else 1 : Nat) : Int) := by
  have hx : a ^^^ b < 2 ^ 8 := Nat.xor_lt_two_pow (by omega) (by omega)
  rw [xor_u8 ha hb, shr_and (by omega) hk, xor_bit]
theorem zeros_at (w : World) (n : Nat) (hn : n ≤ 64) : IsBytes (w.alloc (.cells (madeCells #[.int .u8 0] n) 5)) (some ⟨w.heap.size, 0, none⟩) n n (List.replicate n 0) := by
  refine ⟨List.length_replicate, Nat.le_refl _, by unfold maxLen; omega, (fun h => by cases h), fun x hx i hi => ?_⟩
  cases hx
  rw [Addr.add_lit, Nat.zero_add, cell_of_row _ _ i _ _ _ (heap_alloc_new w _)]
  have e : (madeCells #[Value.int .u8 0] n).toList = List.replicate n (.int .u8 0) := toList_madeCells_one ..
  rw [← Array.getElem?_toList, e, List.getElem?_replicate, if_pos hi]
  simp [List.getD, hi]
theorem place_or {bk : Bool} {st sz q : Nat} : (∃ i, i < sz ∧ plN bk st sz i = q) ∨ (∀ i, i < sz → plN bk st sz i ≠ q) := by
  by_cases h : ∃ i, i < sz ∧ plN bk st sz i = q
  · exact .inl h
  · exact .inr (fun i hi e => h ⟨i, hi, e⟩)
theorem mem_pls {bk : Bool} {st sz q : Nat} (h : ∃ i, i < sz ∧ plN bk st sz i = q) : (q : Int) ∈ plsL bk st sz sz := by
  obtain ⟨i, hi, rfl⟩ := h
  exact List.mem_map.2 ⟨i, List.mem_range.2 hi, rfl⟩
end Bw
end Go.Proofs.YtlnkhlifkooohaaGreatDoor
