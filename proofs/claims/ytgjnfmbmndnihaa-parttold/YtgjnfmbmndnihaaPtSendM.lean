/- Plain facts on what a sender and a getter say to one another. -/
import Derived.Test.YtgjnfmbmndnihaaPtGetAny
namespace Go.Proofs.Ytgjnfmbmndnihaa
open Go.ChangeShapes Go.WideShapes Go.ChangeAt Go.RowKit
namespace Bw
open Bm
/-- how many a getter still lets through behind k next parts -/
def gLf (b k : Nat) : Nat := if b = 0 then 0 else b - k % b
/-- is there an answer behind k next parts -/
def asks (b k : Nat) : Bool := decide (k = 0) || (decide (b ≠ 0) && decide (k % b = 0))
def ansL (b k : Nat) : List UInt8 := if asks b k = true then flowL b else []
/-- Left of a sender behind k next parts -/
def sLf (b k : Nat) : Int := if asks b k = true then -1 else (gLf b k : Int)
/-- how many parts went to and fro -/
def pcN (b k : Nat) : Nat := if k = 0 then 1 else 2 + k + (if b = 0 then 0 else (k - 1) / b)
/-- what a getter has behind k next parts -/
def gX (b : Nat) (l : List UInt8) (k : Nat) : GX :=
  if k < nxN l.length then ⟨(l.length : Nat), ((k + 1) % 16 : Nat), (b : Nat), (gLf b k : Nat), l.take (6 + 7 * k), ansL b k, [], 0⟩ else ⟨0, 0, (b : Nat), 0, [], [], l, 0⟩
theorem gLf_le (b k : Nat) : gLf b k ≤ b := by unfold gLf; split <;> omega
theorem gLf_zero (b : Nat) : gLf b 0 = b := by unfold gLf; split <;> simp_all
theorem gLf_pos {b k : Nat} (h : b ≠ 0) : 1 ≤ gLf b k := by
  unfold gLf; rw [if_neg h]
  have := Nat.mod_lt k (Nat.pos_of_ne_zero h)
  omega
theorem mod_step (b k : Nat) (h : b ≠ 0) : (k + 1) % b = if k % b + 1 = b then 0 else k % b + 1 := by
  have hp := Nat.pos_of_ne_zero h
  have hk := Nat.mod_add_div k b
  have hl := Nat.mod_lt k hp
  split
  · rename_i h1
    have : k + 1 = b * (k / b + 1) := by rw [Nat.mul_add]; omega
    rw [this, Nat.mul_mod_right]
  · rename_i h1
    have : k + 1 = (k % b + 1) + b * (k / b) := by omega
    rw [this, Nat.add_mul_mod_self_left, Nat.mod_eq_of_lt (by omega)]
theorem gLf_step {b k : Nat} (h : b ≠ 0) : gLf b (k + 1) = if gLf b k = 1 then b else gLf b k - 1 := by
  have hl := Nat.mod_lt k (Nat.pos_of_ne_zero h)
  unfold gLf
  rw [if_neg h, if_neg h, mod_step b k h]
  split
  · rw [if_pos (by omega)]; omega
  · rw [if_neg (by omega)]; omega
theorem asks_step {b k : Nat} (h : b ≠ 0) : asks b (k + 1) = decide (gLf b k = 1) := by
  have hl := Nat.mod_lt k (Nat.pos_of_ne_zero h)
  unfold asks gLf
  rw [if_neg h, mod_step b k h]
  have e0 : decide (k + 1 = 0) = false := by simp
  have e1 : decide (b ≠ 0) = true := by simpa using h
  rw [e0, e1, Bool.false_or, Bool.true_and]
  congr 1
  apply propext
  split <;> omega
theorem asks_zero (k : Nat) : asks 0 (k + 1) = false := by unfold asks; simp
theorem nx_lt {n k : Nat} (h : k < nxN n) : 7 < n ∧ 6 + 7 * k < n := by
  unfold nxN at h
  split at h <;> omega
theorem nx_last {n k : Nat} (h : k < nxN n) : k + 1 = nxN n ↔ n ≤ 6 + 7 * k + 7 := by
  unfold nxN at *
  split at h
  · omega
  · rename_i h1
    rw [if_neg h1]
    omega
theorem getD_head (c : UInt8) (l : List UInt8) : (c :: l).getD 0 0 = c := rfl
theorem fp_one {l : List UInt8} (h : l.length ≤ 7) : fpL l = UInt8.ofNat l.length :: l := by
  unfold fpL fpH inF
  rw [if_pos h, if_pos h, List.take_length]
  rfl
theorem fp_more {l : List UInt8} (h : 7 < l.length) : fpL l = UInt8.ofNat (16 + l.length / 256) :: UInt8.ofNat (l.length % 256) :: l.take 6 := by
  unfold fpL fpH inF
  rw [if_neg (by omega), if_neg (by omega)]
  rfl
theorem toN {n : Nat} (h : n < 256) : (UInt8.ofNat n).toNat = n := UInt8.toNat_ofNat_of_lt' h
/-- a message that begins, whatever was under way -/
theorem getX_first {want next left : Int} {b : Nat} {dt l : List UInt8} (hE : gtE dt.length want next (b : Nat) left = 0) (h1 : 1 ≤ l.length) (h3 : l.length ≤ 300) :
    getX want next (b : Nat) left dt (fpL l) = gX b l 0 := by
  have hb := (gtE_ok hE).1.2.1
  unfold getX
  rw [if_neg (by rw [hE]; simp)]
  by_cases h7 : l.length ≤ 7
  · rw [fp_one h7]
    have hg : ((UInt8.ofNat l.length :: l).getD 0 0).toNat = l.length := by rw [getD_head, toN (by omega)]
    rw [if_neg (by simp), if_neg (by simp; omega), if_pos (by rw [hg]; omega)]
    unfold oneX gX
    rw [hg, if_pos (by simp; omega), if_neg (by unfold nxN; rw [if_pos h7]; omega)]
    rfl
  · rw [fp_more (by omega)]
    have hg : ((UInt8.ofNat (16 + l.length / 256) :: UInt8.ofNat (l.length % 256) :: l.take 6).getD 0 0).toNat = 16 + l.length / 256 := by rw [getD_head, toN (by omega)]
    have hlen : (UInt8.ofNat (16 + l.length / 256) :: UInt8.ofNat (l.length % 256) :: l.take 6).length = 8 := by simp; omega
    have hs : saysN (UInt8.ofNat (16 + l.length / 256) :: UInt8.ofNat (l.length % 256) :: l.take 6) = l.length := by
      unfold saysN
      rw [hg, show (UInt8.ofNat (16 + l.length / 256) :: UInt8.ofNat (l.length % 256) :: l.take 6).getD 1 0 = UInt8.ofNat (l.length % 256) from rfl, toN (by omega)]
      omega
    rw [if_neg (by omega), if_neg (by omega), hg, if_neg (by omega), if_pos (by omega)]
    unfold firstX gX
    rw [if_neg (by omega), hs, if_neg (by omega), if_neg (by omega), if_pos (by unfold nxN; rw [if_neg (by omega)]; omega)]
    rw [gLf_zero]
    have ha : ansL b 0 = flowL b := by unfold ansL asks; simp
    rw [ha]
    simp
/-- a getter under way is right -/
theorem gtE_mid {b : Nat} {l : List UInt8} {k : Nat} (hb : b ≤ 255) (hk : k < nxN l.length) (h3 : l.length ≤ 300) :
    gtE (l.take (6 + 7 * k)).length (l.length : Nat) ((k + 1) % 16 : Nat) (b : Nat) (gLf b k : Nat) = 0 := by
  obtain ⟨h7, hat⟩ := nx_lt hk
  have hgl := gLf_le b k
  have hlt : (l.take (6 + 7 * k)).length = 6 + 7 * k := by rw [List.length_take]; omega
  rw [hlt]
  refine gtE_yes ⟨by omega, by omega⟩ ⟨by omega, by omega⟩ ⟨by omega, by omega⟩ ⟨by omega, by omega⟩ ?_
  unfold gtF
  rw [if_neg (by omega), if_neg (by omega), if_neg (by omega), numN_at]
  have hbt : btw (6 + 7 * k) = true := by
    unfold btw
    rw [show 6 + 7 * k - 6 = 7 * k by omega, Nat.mul_mod_right]
    simp
  rw [hbt]
  by_cases h0 : b = 0
  · subst h0; simp
  · have := gLf_pos (k := k) h0
    have e : (((gLf b k : Nat) : Int) == 0) = false := by simp; omega
    rw [e]
    simp
theorem take_next (l : List UInt8) (k : Nat) : l.take k ++ (l.drop k).take 7 = l.take (k + 7) := by
  rw [List.take_add]
/-- the next part behind k -/
theorem getX_next {b : Nat} {l : List UInt8} {k : Nat} (hb : b ≤ 255) (hk : k < nxN l.length) (h3 : l.length ≤ 300) :
    getX (l.length : Nat) ((k + 1) % 16 : Nat) (b : Nat) (gLf b k : Nat) (l.take (6 + 7 * k)) (npL l (6 + 7 * k)) = gX b l (k + 1) := by
  obtain ⟨h7, hat⟩ := nx_lt hk
  have hlt : (l.take (6 + 7 * k)).length = 6 + 7 * k := by rw [List.length_take]; omega
  have hE := gtE_mid (b := b) hb hk h3
  have hnl := npL_len l (6 + 7 * k)
  have hg : ((npL l (6 + 7 * k)).getD 0 0).toNat = 32 + (k + 1) % 16 := by
    unfold npL
    rw [getD_head, numN_at, toN (by omega)]
  have hdr : (npL l (6 + 7 * k)).drop 1 = (l.drop (6 + 7 * k)).take 7 := rfl
  unfold getX
  rw [if_neg (by rw [hE]; simp), if_neg (by omega), if_neg (by omega), hg, if_neg (by omega), if_neg (by omega), if_pos (by omega)]
  unfold nextX
  rw [hg, hdr, take_next, hlt, hnl]
  have e16 : (32 + (k + 1) % 16) % 16 = (k + 1) % 16 := by omega
  rw [e16, if_neg (by omega), if_neg (by simp), if_neg (by simp; omega)]
  have hlast := nx_last hk
  unfold gX
  by_cases hl : k + 1 = nxN l.length
  · have := hlast.1 hl
    rw [if_pos (show 6 + 7 * k + (1 + min 7 (l.length - (6 + 7 * k)) - 1) = ((l.length : Nat) : Int).toNat by simp; omega), if_neg (show ¬ (k + 1 < nxN l.length) by omega), List.take_of_length_le (by omega)]
  · have hm : 6 + 7 * k + 7 < l.length := by
      have := fun h => hl (hlast.2 h)
      omega
    rw [if_neg (show ¬ (6 + 7 * k + (1 + min 7 (l.length - (6 + 7 * k)) - 1) = ((l.length : Nat) : Int).toNat) by simp; omega), if_pos (show k + 1 < nxN l.length by omega)]
    have e1 : 6 + 7 * (k + 1) = 6 + 7 * k + 7 := by omega
    have e2 : ((k + 1) % 16 + 1) % 16 = (k + 1 + 1) % 16 := by omega
    rw [e1, e2]
    by_cases h0 : b = 0
    · subst h0
      have ha : ansL 0 (k + 1) = [] := by unfold ansL; rw [asks_zero]; rfl
      rw [ha]
      simp [gLf]
    · have hb0 : ¬ ((b : Nat) : Int) = 0 := by omega
      rw [if_neg hb0, if_neg hb0]
      have hst := gLf_step (k := k) h0
      have hak : ansL b (k + 1) = if gLf b k = 1 then flowL b else [] := by
        unfold ansL
        rw [asks_step h0]
        simp
      rw [hst, hak]
      have hp := gLf_pos (k := k) h0
      by_cases hone : gLf b k = 1
      · rw [if_pos (by omega), if_pos (by omega), if_pos hone, if_pos hone]
        simp
      · rw [if_neg (by omega), if_neg (by omega), if_neg hone, if_neg hone]
        congr 1
        omega
/-- a sender under way is right -/
theorem sdE_mid {n k : Nat} {left : Int} (hk : k < nxN n) (h3 : n ≤ 300) (hl : -1 ≤ left ∧ left ≤ 255) : sdE n ((6 + 7 * k : Nat) : Int) ((k + 1) % 16 : Nat) left false = 0 := by
  obtain ⟨h7, hat⟩ := nx_lt hk
  unfold sdE
  rw [if_neg (by omega), if_neg (by omega), inP_yes ⟨by omega, by omega⟩, inP_yes hl, inP_yes ⟨by omega, by omega⟩]
  have hbt : btw (6 + 7 * k) = true := by
    unfold btw
    rw [show 6 + 7 * k - 6 = 7 * k by omega, Nat.mul_mod_right]
    simp
  have hf : sdF n ((6 + 7 * k : Nat) : Int).toNat ((k + 1) % 16 : Nat) left false = true := by
    rw [Int.toNat_natCast]
    unfold sdF
    rw [if_neg (by omega), hbt, numN_at]
    simp
    omega
  rw [hf]
  simp
theorem lb_step {b k : Nat} : lbI (if asks b k = true then (b : Int) else sLf b k) = sLf b (k + 1) := by
  by_cases h0 : b = 0
  · subst h0
    have e1 : sLf 0 (k + 1) = 0 := by unfold sLf; rw [asks_zero]; rfl
    rw [e1]
    cases ha : asks 0 k with
    | true => rfl
    | false =>
      have : sLf 0 k = 0 := by unfold sLf; rw [ha]; rfl
      simp [this, lbI]
  · have hp := gLf_pos (k := k) h0
    have hst := gLf_step (k := k) h0
    have e1 : (if asks b k = true then (b : Int) else sLf b k) = (gLf b k : Int) := by
      cases ha : asks b k with
      | true =>
        simp
        unfold asks at ha
        simp [h0] at ha
        unfold gLf
        rw [if_neg h0]
        rcases ha with ha | ha
        · subst ha; simp
        · rw [ha]; rfl
      | false => simp [sLf, ha]
    rw [e1]
    unfold sLf
    rw [asks_step h0, hst]
    unfold lbI
    by_cases hone : gLf b k = 1
    · rw [if_neg (by omega), if_pos (by omega)]
      simp [hone]
    · rw [if_neg (by omega), if_neg (by omega)]
      simp [hone]
      omega
theorem pc_step (b k : Nat) : pcN b (k + 1) = pcN b k + 1 + (if asks b k = true then 1 else 0) := by
  unfold pcN
  by_cases hk : k = 0
  · subst hk
    unfold asks
    simp
  · rw [if_neg (by omega), if_neg hk]
    by_cases h0 : b = 0
    · subst h0
      have : asks 0 k = false := by unfold asks; simp [hk]
      rw [this]
      simp
      omega
    · rw [if_neg h0, if_neg h0]
      have ha : asks b k = decide (k % b = 0) := by unfold asks; simp [hk, h0]
      rw [ha]
      obtain ⟨j, rfl⟩ : ∃ j, k = j + 1 := ⟨k - 1, by omega⟩
      have hd : (j + 1) / b = if (j + 1) % b = 0 then j / b + 1 else j / b := by
        rw [Nat.succ_div]
        by_cases hx : b ∣ j + 1
        · rw [if_pos hx, if_pos (Nat.mod_eq_zero_of_dvd hx)]
        · rw [if_neg hx, if_neg (fun h => hx (Nat.dvd_of_mod_eq_zero h))]; rfl
      rw [show j + 1 + 1 - 1 = j + 1 by omega, show j + 1 - 1 = j by omega, hd]
      by_cases hz : (j + 1) % b = 0
      · simp [hz]; omega
      · simp [hz]; omega
theorem sLf_range (b k : Nat) (hb : b ≤ 255) : -1 ≤ sLf b k ∧ sLf b k ≤ 255 := by
  have := gLf_le b k
  unfold sLf
  split <;> omega
theorem sLf_ask {b k : Nat} (h : asks b k = true) : sLf b k = -1 := by unfold sLf; rw [if_pos h]
theorem sLf_not {b k : Nat} (h : asks b k = false) : sLf b k ≠ -1 := by
  unfold sLf; rw [h]; simp
end Bw
end Go.Proofs.Ytgjnfmbmndnihaa
