/- Plain facts on signals: where their bits lie, what is read of bytes and written into them, fractions in lowest terms; of no program. -/
import Derived.WalkKit
namespace Go.Proofs.YtlnkhlifkooohaaGreatDoor.Sm

/-- the number of a bit if the highest bit of each byte were its first one -/
def flipN (x : Nat) : Nat := 8 * (x / 8) + (7 - x % 8)
theorem flip_flip (x : Nat) : flipN (flipN x) = x := by unfold flipN; omega
theorem flip_lt (x n : Nat) : flipN x < 8 * n ↔ x < 8 * n := by unfold flipN; omega
theorem flip_inj {x y : Nat} (h : flipN x = flipN y) : x = y := by rw [← flip_flip x, h, flip_flip]
def fsN (back : Bool) (st : Nat) : Nat := match back with
  | true => flipN st
  | false => st
/-- the place of the bit that counts 2^i -/
def plN (back : Bool) (st sz i : Nat) : Nat := match back with
  | true => flipN (flipN st + sz - 1 - i)
  | false => st + i
theorem plN_inj {back : Bool} {st sz i j : Nat} (hi : i < sz) (hj : j < sz) (h : plN back st sz i = plN back st sz j) : i = j := by
  cases back with
  | false => simp only [plN] at h; omega
  | true => simp only [plN] at h; have := flip_inj h; omega
theorem plN_lt {back : Bool} {st sz i n : Nat} (hi : i < sz) (h : fsN back st + sz ≤ 8 * n) : plN back st sz i < 8 * n := by
  cases back with
  | false => simp only [plN, fsN] at h ⊢; omega
  | true => simp only [plN, fsN] at h ⊢; rw [flip_lt]; omega
theorem st_lt {back : Bool} {st sz n : Nat} (h1 : 1 ≤ sz) (h : fsN back st + sz ≤ 8 * n) : st < 8 * n := by
  cases back with
  | false => simp only [fsN] at h; omega
  | true => simp only [fsN] at h; have : flipN st < 8 * n := by omega
            rwa [flip_lt] at this

/-- the bit p of bytes -/
def bitN (l : List UInt8) (p : Nat) : Nat := (l.getD (p / 8) 0).toNat / 2 ^ (p % 8) % 2
theorem bitN_lt (l : List UInt8) (p : Nat) : bitN l p < 2 := by unfold bitN; omega
def putN (c k b : Nat) : Nat := c - c / 2 ^ k % 2 * 2 ^ k + b * 2 ^ k
def putB (l : List UInt8) (p b : Nat) : List UInt8 := l.set (p / 8) (UInt8.ofNat (putN (l.getD (p / 8) 0).toNat (p % 8) b))
theorem putB_length (l : List UInt8) (p b : Nat) : (putB l p b).length = l.length := by simp [putB]
theorem putN_all : ((List.range 256).all fun c => (List.range 8).all fun k => (List.range 2).all fun b => decide (putN c k b < 256) && (List.range 8).all fun j => putN c k b / 2 ^ j % 2 == (if j = k then b else c / 2 ^ j % 2)) = true := by kernel_rfl
theorem putN_lt {c k b : Nat} (hc : c < 256) (hk : k < 8) (hb : b < 2) : putN c k b < 256 := by
  have h1 := List.all_eq_true.1 (List.all_eq_true.1 (List.all_eq_true.1 putN_all c (List.mem_range.2 hc)) k (List.mem_range.2 hk)) b (List.mem_range.2 hb)
  rw [Bool.and_eq_true] at h1
  exact of_decide_eq_true h1.1
theorem putN_bit {c k b j : Nat} (hc : c < 256) (hk : k < 8) (hb : b < 2) (hj : j < 8) : putN c k b / 2 ^ j % 2 = if j = k then b else c / 2 ^ j % 2 := by
  have h1 := List.all_eq_true.1 (List.all_eq_true.1 (List.all_eq_true.1 putN_all c (List.mem_range.2 hc)) k (List.mem_range.2 hk)) b (List.mem_range.2 hb)
  rw [Bool.and_eq_true] at h1
  exact eq_of_beq (List.all_eq_true.1 h1.2 j (List.mem_range.2 hj))
theorem bitN_put {l : List UInt8} {p b : Nat} (q : Nat) (hp : p < 8 * l.length) (hb : b < 2) : bitN (putB l p b) q = if q = p then b else bitN l q := by
  unfold bitN putB
  by_cases h : q / 8 = p / 8
  · rw [h]
    have hlt : p / 8 < l.length := by omega
    have e : (l.set (p / 8) (UInt8.ofNat (putN (l.getD (p / 8) 0).toNat (p % 8) b))).getD (p / 8) 0 = UInt8.ofNat (putN (l.getD (p / 8) 0).toNat (p % 8) b) := by
      simp only [List.getD, List.getElem?_set_self hlt, Option.getD_some]
    rw [e]
    have hc : (l.getD (p / 8) 0).toNat < 256 := UInt8.toNat_lt _
    have hl := putN_lt hc (show p % 8 < 8 by omega) hb
    have et : (UInt8.ofNat (putN (l.getD (p / 8) 0).toNat (p % 8) b)).toNat = putN (l.getD (p / 8) 0).toNat (p % 8) b := by
      exact UInt8.toNat_ofNat_of_lt' hl
    rw [et, putN_bit hc (by omega) hb (by omega)]
    by_cases hq : q = p
    · rw [if_pos (by omega), if_pos hq]
    · rw [if_neg (by omega), if_neg hq]
  · have e : (l.set (p / 8) (UInt8.ofNat (putN (l.getD (p / 8) 0).toNat (p % 8) b))).getD (q / 8) 0 = l.getD (q / 8) 0 := by
      simp only [List.getD, List.getElem?_set_ne (fun h' => h h'.symm)]
    rw [e, if_neg (fun hq => h (by rw [hq]))]
theorem byte_ext {c d : Nat} (hc : c < 256) (hd : d < 256) (h : ∀ k, k < 8 → c / 2 ^ k % 2 = d / 2 ^ k % 2) : c = d := by
  have h0 := h 0 (by omega)
  have h1 := h 1 (by omega)
  have h2 := h 2 (by omega)
  have h3 := h 3 (by omega)
  have h4 := h 4 (by omega)
  have h5 := h 5 (by omega)
  have h6 := h 6 (by omega)
  have h7 := h 7 (by omega)
  simp only [Nat.reducePow, Nat.div_one] at *
  omega
theorem bits_ext {a b : List UInt8} (hl : a.length = b.length) (h : ∀ p, p < 8 * a.length → bitN a p = bitN b p) : a = b := by
  apply List.ext_getElem hl
  intro i h1 h2
  apply UInt8.toNat_inj.1
  refine byte_ext (UInt8.toNat_lt _) (UInt8.toNat_lt _) fun k hk => ?_
  have := h (8 * i + k) (by omega)
  unfold bitN at this
  have e1 : (8 * i + k) / 8 = i := by omega
  have e2 : (8 * i + k) % 8 = k := by omega
  rw [e1, e2] at this
  simpa [List.getD, h1, h2] using this

/-- k bits put in, bit i at the place f i -/
def wrK (f r : Nat → Nat) (l : List UInt8) : Nat → List UInt8
  | 0 => l
  | k + 1 => putB (wrK f r l k) (f k) (r k)
theorem wrK_length (f r : Nat → Nat) (l : List UInt8) (k : Nat) : (wrK f r l k).length = l.length := by
  induction k with
  | zero => rfl
  | succ k ih => rw [wrK, putB_length, ih]
theorem wrK_at {f r : Nat → Nat} {l : List UInt8} {k : Nat} (hf : ∀ i, i < k → f i < 8 * l.length) (hr : ∀ i, i < k → r i < 2) (hinj : ∀ i j, i < k → j < k → f i = f j → i = j) :
    ∀ i, i < k → bitN (wrK f r l k) (f i) = r i := by
  induction k with
  | zero => intro i hi; omega
  | succ k ih =>
    intro i hi
    rw [wrK, bitN_put _ (by rw [wrK_length]; exact hf k (by omega)) (hr k (by omega))]
    by_cases h : i = k
    · subst h; rw [if_pos rfl]
    · rw [if_neg (fun e => h (hinj i k hi (by omega) e))]
      exact ih (fun i hi => hf i (by omega)) (fun i hi => hr i (by omega)) (fun i j hi hj => hinj i j (by omega) (by omega)) i (by omega)
theorem wrK_other {f r : Nat → Nat} {l : List UInt8} {k q : Nat} (hf : ∀ i, i < k → f i < 8 * l.length) (hr : ∀ i, i < k → r i < 2) (hq : ∀ i, i < k → f i ≠ q) : bitN (wrK f r l k) q = bitN l q := by
  induction k with
  | zero => rfl
  | succ k ih =>
    rw [wrK, bitN_put _ (by rw [wrK_length]; exact hf k (by omega)) (hr k (by omega)), if_neg (fun e => hq k (by omega) e.symm)]
    exact ih (fun i hi => hf i (by omega)) (fun i hi => hr i (by omega)) (fun i hi => hq i (by omega))
theorem wrK_congr {f r r' : Nat → Nat} {l : List UInt8} {k : Nat} (h : ∀ i, i < k → r i = r' i) : wrK f r l k = wrK f r' l k := by
  induction k with
  | zero => rfl
  | succ k ih => rw [wrK, wrK, ih (fun i hi => h i (by omega)), h k (by omega)]

/-- k bits as a number, bit i counts 2^i -/
def sumK (g : Nat → Nat) : Nat → Nat
  | 0 => 0
  | k + 1 => sumK g k + g k * 2 ^ k
theorem sumK_lt {g : Nat → Nat} {k : Nat} (h : ∀ i, i < k → g i < 2) : sumK g k < 2 ^ k := by
  induction k with
  | zero => simp [sumK]
  | succ k ih =>
    have h1 := ih (fun i hi => h i (by omega))
    have h2 : g k * 2 ^ k ≤ 1 * 2 ^ k := Nat.mul_le_mul_right _ (by have := h k (by omega); omega)
    rw [sumK, Nat.pow_succ]; omega
theorem sumK_congr {g g' : Nat → Nat} {k : Nat} (h : ∀ i, i < k → g i = g' i) : sumK g k = sumK g' k := by
  induction k with
  | zero => rfl
  | succ k ih => rw [sumK, sumK, ih (fun i hi => h i (by omega)), h k (by omega)]
theorem sumK_bits (u k : Nat) : sumK (fun i => u / 2 ^ i % 2) k = u % 2 ^ k := by
  induction k with
  | zero => simp [sumK, Nat.mod_one]
  | succ k ih => rw [sumK, ih, Nat.pow_succ, Nat.mod_mul, Nat.mul_comm (2 ^ k)]
theorem sumK_bit {g : Nat → Nat} {k : Nat} (h : ∀ i, i < k → g i < 2) : ∀ i, i < k → sumK g k / 2 ^ i % 2 = g i := by
  induction k with
  | zero => intro i hi; omega
  | succ k ih =>
    intro i hi
    have hlt := sumK_lt (fun i (hi : i < k) => h i (by omega))
    rw [sumK]
    by_cases e : i = k
    · subst e
      rw [Nat.add_mul_div_right _ _ (Nat.two_pow_pos i), Nat.div_eq_of_lt hlt, Nat.zero_add, Nat.mod_eq_of_lt (h i (by omega))]
    · have hik : i < k := by omega
      rw [show g k * 2 ^ k = g k * 2 ^ (k - 1 - i) * 2 * 2 ^ i by
        rw [Nat.mul_assoc, Nat.mul_assoc, ← Nat.pow_succ', ← Nat.pow_add]; congr 2; omega]
      rw [Nat.add_mul_div_right _ _ (Nat.two_pow_pos i), Nat.add_mul_mod_self_right]
      exact ih (fun i hi => h i (by omega)) i hik

/-- bit i of a whole number, of two's complement -/
def bitI (r : Int) (i : Nat) : Nat := (r / 2 ^ i % 2).toNat
theorem bitI_lt (r : Int) (i : Nat) : bitI r i < 2 := by unfold bitI; omega
theorem bitI_nat (u i : Nat) : bitI (u : Int) i = u / 2 ^ i % 2 := by
  unfold bitI
  have e : (u : Int) / 2 ^ i % 2 = ((u / 2 ^ i % 2 : Nat) : Int) := by simp
  rw [e, Int.toNat_natCast]
theorem bitI_add (r q : Int) {i n : Nat} (h : i < n) : bitI (r + 2 ^ n * q) i = bitI r i := by
  unfold bitI
  have e : (2 : Int) ^ n * q = 2 ^ i * (2 * (2 ^ (n - 1 - i) * q)) := by
    rw [← Int.mul_assoc, ← Int.mul_assoc, ← Int.pow_succ, ← Int.pow_add]; congr 2; omega
  rw [e, Int.add_mul_ediv_left _ _ (Int.ne_of_gt (Int.pow_pos (by omega))), Int.add_mul_emod_self_left]
theorem bitI_mod (r : Int) {i n : Nat} (h : i < n) : bitI r i = (r % 2 ^ n).toNat / 2 ^ i % 2 := by
  have hp : (0 : Int) < 2 ^ n := Int.pow_pos (by omega)
  have h1 : ((r % 2 ^ n).toNat : Int) = r % 2 ^ n := Int.toNat_of_nonneg (Int.emod_nonneg _ (Int.ne_of_gt hp))
  rw [← bitI_nat, h1]
  have := bitI_add (r % 2 ^ n) (r / 2 ^ n) h
  rw [Int.emod_add_mul_ediv] at this
  exact this
theorem sumK_int (r : Int) (n : Nat) : sumK (bitI r) n = (r % 2 ^ n).toNat := by
  have hp : (0 : Int) < 2 ^ n := Int.pow_pos (by omega)
  rw [sumK_congr (fun i hi => bitI_mod r hi), sumK_bits]
  apply Nat.mod_eq_of_lt
  have h1 := Int.emod_lt_of_pos r hp
  have h2 := Int.emod_nonneg r (Int.ne_of_gt hp)
  have h3 : ((2 ^ n : Nat) : Int) = 2 ^ n := by simp
  omega
/-- the raw number of bits that tell u -/
def rawS (sg : Bool) (n : Nat) (u : Int) : Int := if sg = true ∧ 2 ^ (n - 1) ≤ u then u - 2 ^ n else u
theorem rawS_bit (sg : Bool) {n i : Nat} (u : Nat) (h : i < n) : bitI (rawS sg n u) i = u / 2 ^ i % 2 := by
  unfold rawS
  split
  · have := bitI_add (u : Int) (-1) h
    rw [show (u : Int) + 2 ^ n * -1 = u - 2 ^ n by omega] at this
    rw [this, bitI_nat]
  · exact bitI_nat u i
def lowS (sg : Bool) (n : Nat) : Int := if sg = true then -2 ^ (n - 1) else 0
def highS (sg : Bool) (n : Nat) : Int := if sg = true then 2 ^ (n - 1) - 1 else 2 ^ n - 1
theorem pow_half {n : Nat} (h : 1 ≤ n) : (2 : Int) ^ n = 2 * 2 ^ (n - 1) := by
  rw [show (2 : Int) * 2 ^ (n - 1) = 2 ^ (n - 1) * 2 by omega, ← Int.pow_succ]; congr 1; omega
theorem rawS_mod {sg : Bool} {n : Nat} {r : Int} (h1 : 1 ≤ n) (hl : lowS sg n ≤ r) (hh : r ≤ highS sg n) : rawS sg n (r % 2 ^ n) = r := by
  have hp : (0 : Int) < 2 ^ (n - 1) := Int.pow_pos (by omega)
  have e := pow_half h1
  unfold lowS at hl
  unfold highS at hh
  unfold rawS
  rw [e] at hh ⊢
  generalize (2 : Int) ^ (n - 1) = P at *
  cases sg with
  | false =>
    simp only [Bool.false_eq_true, if_false, false_and] at *
    exact Int.emod_eq_of_lt hl (by omega)
  | true =>
    simp only [if_true, true_and] at *
    rcases Int.lt_or_le r 0 with hr | hr
    · have e2 : r % (2 * P) = r + 2 * P := by
        rw [← Int.add_emod_right]
        exact Int.emod_eq_of_lt (by omega) (by omega)
      rw [e2, if_pos (by omega)]; omega
    · rw [Int.emod_eq_of_lt hr (by omega), if_neg (by omega)]
theorem rawS_span {sg : Bool} {n : Nat} {u : Int} (h1 : 1 ≤ n) (h0 : 0 ≤ u) (hu : u < 2 ^ n) : lowS sg n ≤ rawS sg n u ∧ rawS sg n u ≤ highS sg n := by
  have hp : (0 : Int) < 2 ^ (n - 1) := Int.pow_pos (by omega)
  have e := pow_half h1
  unfold lowS highS rawS
  rw [e] at hu ⊢
  generalize (2 : Int) ^ (n - 1) = P at *
  cases sg with
  | false => simp only [Bool.false_eq_true, if_false, false_and]; omega
  | true =>
    simp only [if_true, true_and]
    split <;> omega

/-- a fraction in lowest terms -/
def numL (n d : Int) : Int := n / (Int.gcd n d : Int)
def denL (n d : Int) : Int := d / (Int.gcd n d : Int)
theorem gcd_pos {n d : Int} (hd : 0 < d) : 0 < Int.gcd n d := Int.gcd_pos_of_ne_zero_right _ (Int.ne_of_gt hd)
theorem low_mul {n d : Int} : n = Int.gcd n d * numL n d ∧ d = Int.gcd n d * denL n d :=
  ⟨(Int.mul_ediv_cancel' (Int.gcd_dvd_left ..)).symm, (Int.mul_ediv_cancel' (Int.gcd_dvd_right ..)).symm⟩
theorem denL_pos {n d : Int} (hd : 0 < d) : 0 < denL n d := by
  have h := (low_mul (n := n) (d := d)).2
  have hg := gcd_pos (n := n) hd
  rcases Int.lt_or_le 0 (denL n d) with h1 | h1
  · exact h1
  · have : (Int.gcd n d : Int) * denL n d ≤ 0 := Int.mul_nonpos_of_nonneg_of_nonpos (by omega) h1
    omega
theorem low_coprime {n d : Int} (hd : 0 < d) : Int.gcd (numL n d) (denL n d) = 1 := by
  unfold numL denL
  exact Int.gcd_ediv_gcd_ediv_gcd (gcd_pos hd)
theorem dvd_of_cop {a b a' b' : Int} (hc : Int.gcd a b = 1) (h : a * b' = a' * b) : b.natAbs ∣ b'.natAbs := by
  have h2 : b.natAbs ∣ a.natAbs * b'.natAbs := by
    rw [← Int.natAbs_mul, h, Int.natAbs_mul]
    exact Nat.dvd_mul_left _ _
  have h3 : Nat.Coprime b.natAbs a.natAbs := by
    unfold Nat.Coprime
    rw [Nat.gcd_comm]
    exact hc
  exact h3.dvd_of_dvd_mul_left h2
theorem cop_eq {a b a' b' : Int} (hb : 0 < b) (hb' : 0 < b') (hc : Int.gcd a b = 1) (hc' : Int.gcd a' b' = 1) (h : a * b' = a' * b) : a = a' ∧ b = b' := by
  have h1 := dvd_of_cop hc h
  have h2 := dvd_of_cop hc' h.symm
  have h3 := Nat.dvd_antisymm h1 h2
  have hbb : b = b' := by omega
  subst hbb
  exact ⟨Int.eq_of_mul_eq_mul_right (Int.ne_of_gt hb) h, rfl⟩
theorem low_eq {n d n' d' : Int} (hd : 0 < d) (hd' : 0 < d') (h : n * d' = n' * d) : numL n d = numL n' d' ∧ denL n d = denL n' d' := by
  refine cop_eq (denL_pos hd) (denL_pos hd') (low_coprime hd) (low_coprime hd') ?_
  have g1 : (0 : Int) < Int.gcd n d := by have := gcd_pos (n := n) hd; omega
  have g2 : (0 : Int) < Int.gcd n' d' := by have := gcd_pos (n := n') hd'; omega
  have e1 := low_mul (n := n) (d := d)
  have e2 := low_mul (n := n') (d := d')
  apply Int.eq_of_mul_eq_mul_left (Int.ne_of_gt (Int.mul_pos g1 g2))
  calc (Int.gcd n d : Int) * Int.gcd n' d' * (numL n d * denL n' d') = (Int.gcd n d * numL n d) * (Int.gcd n' d' * denL n' d') := by
        simp only [Int.mul_assoc, Int.mul_left_comm, Int.mul_comm]
    _ = (Int.gcd n' d' * numL n' d') * (Int.gcd n d * denL n d) := by rw [← e1.1, ← e1.2, ← e2.1, ← e2.2, h]
    _ = (Int.gcd n d : Int) * Int.gcd n' d' * (numL n' d' * denL n d) := by
        simp only [Int.mul_assoc, Int.mul_left_comm, Int.mul_comm]
theorem low_of_cop {a b : Int} (h : Int.gcd a b = 1) : numL a b = a ∧ denL a b = b := by
  unfold numL denL; rw [h]; simp
/-- a fraction that a whole number is -/
theorem low_whole {n d : Int} (hd : 0 < d) : denL n d = 1 ↔ d ∣ n := by
  constructor
  · intro h
    have e := low_mul (n := n) (d := d)
    rw [h, Int.mul_one] at e
    exact ⟨numL n d, by rw [e.2]; exact e.1.trans (by rw [← e.2])⟩
  · rintro ⟨q, rfl⟩
    exact (low_eq hd (by omega) (show d * q * 1 = q * d by rw [Int.mul_one, Int.mul_comm])).2.trans (low_of_cop (by simp)).2
end Go.Proofs.YtlnkhlifkooohaaGreatDoor.Sm
