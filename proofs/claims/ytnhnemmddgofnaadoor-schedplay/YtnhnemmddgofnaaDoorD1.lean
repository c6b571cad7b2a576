/- Tasks that lie in rows. -/
import Derived.WalkKit
import Derived.ProofKit
import Derived.Test.YtnhnemmddgofnaaDoorC1
namespace Go.Proofs.YtnhnemmddgofnaaDoor
namespace Bw
/-- a task as it came -/
structure Tk where
  id : Int
  by_ : Int
  ev : Int
  la : Int
  ji : Int
def noT : Tk := ⟨0, 0, 0, 0, 0⟩
def okT (x : Tk) : Bool := decide (0 ≤ x.id) && decide (x.id ≤ 2047) && decide (1 ≤ x.ev) && decide (x.ev ≤ 1000000) && decide (0 ≤ x.la) && decide (x.la ≤ 1000000) && decide (0 ≤ x.ji) && decide (x.ji < x.ev) && decide (0 ≤ x.by_) && decide (x.by_ ≤ 8)
def chkF : Int → List Tk → Int
  | _, [] => 0
  | p, x :: l => if okT x = true then (if x.id ≤ p then 4 else chkF x.id l) else 3
def chkT (l : List Tk) : Int := if 20 < l.length then 2 else chkF (-1) l
theorem chkF_ok : ∀ {l : List Tk} {p : Int}, chkF p l = 0 → ∀ x ∈ l, okT x = true
  | [], _, _, _, hx => by cases hx
  | y :: l, p, h, x, hx => by
    unfold chkF at h
    by_cases hy : okT y = true
    · rw [if_pos hy] at h
      by_cases hp : y.id ≤ p
      · rw [if_pos hp] at h; cases h
      · rw [if_neg hp] at h
        rcases List.mem_cons.1 hx with rfl | hx
        · exact hy
        · exact chkF_ok h x hx
    · rw [if_neg hy] at h; cases h
theorem chkT_ok {l : List Tk} (h : chkT l = 0) : l.length ≤ 20 ∧ ∀ x ∈ l, okT x = true := by
  unfold chkT at h
  by_cases h2 : 20 < l.length
  · rw [if_pos h2] at h; cases h
  · rw [if_neg h2] at h
    exact ⟨by omega, chkF_ok h⟩
theorem okT_iff {x : Tk} : okT x = true ↔ 0 ≤ x.id ∧ x.id ≤ 2047 ∧ 1 ≤ x.ev ∧ x.ev ≤ 1000000 ∧ 0 ≤ x.la ∧ x.la ≤ 1000000 ∧ 0 ≤ x.ji ∧ x.ji < x.ev ∧ 0 ≤ x.by_ ∧ x.by_ ≤ 8 := by
  unfold okT
  simp only [Bool.and_eq_true, decide_eq_true_eq, and_assoc]
/-- what a message takes, how often it comes, how late it may come -/
def cN (x : Tk) : Nat := 55 + 10 * x.by_.toNat
def tN (x : Tk) : Nat := x.ev.toNat
def jN (x : Tk) : Nat := x.ji.toNat
theorem okT_n {x : Tk} (h : okT x = true) : 55 ≤ cN x ∧ cN x ≤ 135 ∧ 1 ≤ tN x ∧ tN x ≤ 1000000 ∧ jN x < tN x ∧ x.ev = (tN x : Int) ∧ x.ji = (jN x : Int) ∧ (55 + 10 * x.by_ = (cN x : Int)) ∧ (x.by_.toNat ≤ 8) ∧ x.by_ = (x.by_.toNat : Int) := by
  have h1 := okT_iff.1 h
  unfold cN tN jN
  omega
def upN (n d : Nat) : Nat := (n + d - 1) / d
def wkN (x : Tk) (t : Nat) : Nat := cN x * upN (t + jN x) (tN x)
def sumN (l : List Tk) (t : Nat) : Nat := (l.map fun x => wkN x t).sum
def mostT (l : List Tk) : Nat := l.foldl (fun n x => max n (cN x)) 0
def loadT (l : List Tk) : Nat := (l.map fun x => upN (1000000 * cN x) (tN x)).sum
theorem upN_mono {a b d : Nat} (h : a ≤ b) : upN a d ≤ upN b d := Nat.div_le_div_right (by omega)
theorem wkN_mono (x : Tk) {a b : Nat} (h : a ≤ b) : wkN x a ≤ wkN x b := Nat.mul_le_mul_left _ (upN_mono (by omega))
theorem sumN_mono : ∀ (l : List Tk) {a b : Nat}, a ≤ b → sumN l a ≤ sumN l b
  | [], _, _, _ => Nat.le_refl _
  | x :: l, a, b, h => by
    have h1 := sumN_mono l h
    have h2 := wkN_mono x h
    unfold sumN at *
    simp only [List.map_cons, List.sum_cons]
    omega
theorem sumN_snoc (l : List Tk) (x : Tk) (t : Nat) : sumN (l ++ [x]) t = sumN l t + wkN x t := by
  unfold sumN; simp
theorem upN_le {n d : Nat} (hd : 1 ≤ d) : upN n d ≤ n := by
  unfold upN
  rcases Nat.eq_zero_or_pos n with rfl | h
  · rw [Nat.div_eq_of_lt (by omega)]; exact Nat.le_refl _
  · apply Nat.div_le_of_le_mul
    have : n + d - 1 ≤ n * d := by
      obtain ⟨k, rfl⟩ : ∃ k, n = k + 1 := ⟨n - 1, by omega⟩
      obtain ⟨m, rfl⟩ : ∃ m, d = m + 1 := ⟨d - 1, by omega⟩
      simp only [Nat.add_mul, Nat.mul_add]
      omega
    rw [Nat.mul_comm]; exact this
theorem upN_one {n d : Nat} (hn : 1 ≤ n) (hd : 1 ≤ d) : 1 ≤ upN n d := by
  unfold upN
  exact Nat.div_pos (by omega) (by omega)
theorem upN_succ {n d : Nat} (hd : 1 ≤ d) : upN (n + 1) d = n / d + 1 := by
  unfold upN
  rw [show n + 1 + d - 1 = n + d from by omega, Nat.add_div_right _ (by omega)]
theorem wkN_le {x : Tk} (h : okT x = true) {t M : Nat} (ht : t ≤ M) : wkN x t ≤ 135 * (M + 1000000) := by
  obtain ⟨h1, h2, h3, h4, h5, -⟩ := okT_n h
  have := upN_le (n := t + jN x) h3
  unfold wkN
  exact Nat.mul_le_mul h2 (by omega)
theorem sumN_le : ∀ {l : List Tk}, (∀ x ∈ l, okT x = true) → ∀ {t M : Nat}, t ≤ M → sumN l t ≤ l.length * (135 * (M + 1000000))
  | [], _, _, _, _ => Nat.zero_le _
  | x :: l, h, t, M, ht => by
    have h1 := sumN_le (l := l) (fun y hy => h y (List.mem_cons_of_mem _ hy)) ht
    have h2 := wkN_le (h x (List.mem_cons_self ..)) ht
    unfold sumN at *
    simp only [List.map_cons, List.sum_cons, List.length_cons]
    rw [Nat.add_mul]
    omega
/-- the search for a time that is its own next -/
def stl (f : Nat → Nat) : Nat → Nat → Option Nat
  | 0, _ => none
  | k + 1, t => if 200000 < t then none else if f t = t then some t else stl f k (f t)
def setF (f : Nat → Nat) (t : Nat) : Option Nat := stl f 200002 t
def Lfp (f : Nat → Nat) (t0 x : Nat) : Prop := t0 ≤ x ∧ f x = x ∧ ∀ y, t0 ≤ y → f y ≤ y → x ≤ y
theorem Lfp.one {f : Nat → Nat} {t0 x y : Nat} (h : Lfp f t0 x) (g : Lfp f t0 y) : x = y :=
  Nat.le_antisymm (h.2.2 y g.1 (Nat.le_of_eq g.2.1)) (g.2.2 x h.1 (Nat.le_of_eq h.2.1))
def Mono (f : Nat → Nat) : Prop := ∀ a b, a ≤ b → f a ≤ f b
theorem stl_some {f : Nat → Nat} (hm : Mono f) {t0 : Nat} : ∀ {k t x : Nat}, t0 ≤ t → t ≤ f t → (∀ y, t0 ≤ y → f y ≤ y → t ≤ y) → stl f k t = some x → Lfp f t0 x ∧ x ≤ 200000
  | 0, _, _, _, _, _, h => by cases h
  | k + 1, t, x, h0, hi, hl, h => by
    unfold stl at h
    by_cases h2 : 200000 < t
    · rw [if_pos h2] at h; cases h
    · rw [if_neg h2] at h
      by_cases he : f t = t
      · rw [if_pos he] at h
        obtain rfl := Option.some.inj h
        exact ⟨⟨h0, he, hl⟩, by omega⟩
      · rw [if_neg he] at h
        exact stl_some hm (by omega) (hm _ _ hi) (fun y hy hp => Nat.le_trans (hm _ _ (hl y hy hp)) hp) h
theorem setF_some {f : Nat → Nat} (hm : Mono f) {t x : Nat} (hi : t ≤ f t) (h : setF f t = some x) : Lfp f t x ∧ x ≤ 200000 :=
  stl_some hm (Nat.le_refl _) hi (fun _ hy _ => hy) h
theorem stl_none {f : Nat → Nat} (hm : Mono f) {t0 : Nat} : ∀ {k t : Nat}, 200002 ≤ k + t → 1 ≤ k → t0 ≤ t → t ≤ f t → (∀ y, t0 ≤ y → f y ≤ y → t ≤ y) → stl f k t = none → ∀ y, t0 ≤ y → f y ≤ y → 200000 < y
  | 0, _, _, h1, _, _, _, _ => by omega
  | k + 1, t, hk, _, h0, hi, hl, h => by
    unfold stl at h
    by_cases h2 : 200000 < t
    · intro y hy hp; exact Nat.lt_of_lt_of_le h2 (hl y hy hp)
    · rw [if_neg h2] at h
      by_cases he : f t = t
      · rw [if_pos he] at h; cases h
      · rw [if_neg he] at h
        exact stl_none hm (by omega) (by omega) (by omega) (hm _ _ hi) (fun y hy hp => Nat.le_trans (hm _ _ (hl y hy hp)) hp) h
theorem setF_none {f : Nat → Nat} (hm : Mono f) {t : Nat} (hi : t ≤ f t) (h : setF f t = none) : ∀ y, t ≤ y → f y ≤ y → 200000 < y :=
  stl_none hm (by omega) (by omega) (Nat.le_refl _) hi (fun _ hy _ => hy) h
theorem setF_is {f : Nat → Nat} (hm : Mono f) {t m : Nat} (hi : t ≤ f t) (h1 : t ≤ m) (h2 : f m ≤ m) (h3 : m ≤ 200000) : ∃ x, setF f t = some x ∧ Lfp f t x ∧ x ≤ m := by
  cases h : setF f t with
  | none => exact absurd (setF_none hm hi h m h1 h2) (by omega)
  | some x =>
    obtain ⟨hx, -⟩ := setF_some hm hi h
    exact ⟨x, rfl, hx, hx.2.2 m h1 h2⟩
theorem stl_more {f : Nat → Nat} {t : Nat} {k : Nat} (hk : 1 ≤ k) (h2 : t ≤ 200000) (he : ¬ f t = t) : stl f k t = stl f (k - 1) (f t) := by
  obtain ⟨j, rfl⟩ : ∃ j, k = j + 1 := ⟨k - 1, by omega⟩
  rw [stl, if_neg (by omega), if_neg he]; rfl
theorem stl_here {f : Nat → Nat} {t : Nat} {k : Nat} (hk : 1 ≤ k) (h2 : t ≤ 200000) (he : f t = t) : stl f k t = some t := by
  obtain ⟨j, rfl⟩ : ∃ j, k = j + 1 := ⟨k - 1, by omega⟩
  rw [stl, if_neg (by omega), if_pos he]
theorem stl_over {f : Nat → Nat} {t : Nat} {k : Nat} (h2 : 200000 < t) : stl f k t = none := by
  cases k with
  | zero => rfl
  | succ k => rw [stl, if_pos h2]
/-- the bus is busy; when a message begins -/
def bF (b : Nat) (x : Tk) (l : List Tk) (t : Nat) : Nat := b + wkN x t + sumN l t
def gF (b : Nat) (x : Tk) (l : List Tk) (q w : Nat) : Nat := b + q * cN x + sumN l (w + 1)
theorem bF_mono (b : Nat) (x : Tk) (l : List Tk) : Mono (bF b x l) := fun a c h => by
  have h1 := wkN_mono x h
  have h2 := sumN_mono l h
  unfold bF; omega
theorem gF_mono (b : Nat) (x : Tk) (l : List Tk) (q : Nat) : Mono (gF b x l q) := fun a c h => by
  have h2 := sumN_mono l (show a + 1 ≤ c + 1 by omega)
  unfold gF; omega
theorem bF_from {x : Tk} (hx : okT x = true) (b : Nat) (l : List Tk) : b + cN x ≤ bF b x l (b + cN x) := by
  obtain ⟨h1, h2, h3, h4, h5, -⟩ := okT_n hx
  have := upN_one (n := b + cN x + jN x) (d := tN x) (by omega) h3
  unfold bF wkN
  have h6 : cN x * 1 ≤ cN x * upN (b + cN x + jN x) (tN x) := Nat.mul_le_mul_left _ this
  omega
theorem gF_from (b : Nat) (x : Tk) (l : List Tk) (q w : Nat) : b + q * cN x ≤ gF b x l q w := by unfold gF; omega
theorem sum_less : ∀ {l : List Tk}, (∀ x ∈ l, okT x = true) → ∀ {m c : Nat}, 1 ≤ c → sumN l (m + 1) ≤ sumN l (m + c)
  | _, _, _, _, hc => sumN_mono _ (by omega)
/-- within what is busy each message begins -/
theorem begins {b : Nat} {x : Tk} {l : List Tk} {busy q : Nat} (hx : okT x = true) (h : bF b x l busy = busy) (hq : q < upN (busy + jN x) (tN x)) : b + q * cN x ≤ busy - cN x ∧ gF b x l q (busy - cN x) ≤ busy - cN x := by
  obtain ⟨h1, h2, h3, h4, h5, -⟩ := okT_n hx
  unfold bF wkN at h
  have h6 : cN x * (q + 1) ≤ cN x * upN (busy + jN x) (tN x) := Nat.mul_le_mul_left _ hq
  have h7 : cN x * (q + 1) = q * cN x + cN x := by rw [Nat.mul_add, Nat.mul_one, Nat.mul_comm]
  have h8 : sumN l (busy - cN x + 1) ≤ sumN l busy := sumN_mono l (by omega)
  unfold gF
  omega
theorem begin_is {b : Nat} {x : Tk} {l : List Tk} {busy q : Nat} (hx : okT x = true) (h : bF b x l busy = busy) (hb : busy ≤ 200000) (hq : q < upN (busy + jN x) (tN x)) :
    ∃ y, setF (gF b x l q) (b + q * cN x) = some y ∧ Lfp (gF b x l q) (b + q * cN x) y ∧ y ≤ busy := by
  obtain ⟨h1, h2⟩ := begins hx h hq
  obtain ⟨y, hy, hl, hm⟩ := setF_is (gF_mono b x l q) (gF_from b x l q _) h1 h2 (by omega)
  exact ⟨y, hy, hl, by omega⟩
def wQ (b : Nat) (x : Tk) (l : List Tk) (q : Nat) : Nat := (setF (gF b x l q) (b + q * cN x)).getD 0
def tQ (b : Nat) (x : Tk) (l : List Tk) (q : Nat) : Int := (jN x : Int) + (wQ b x l q : Int) - (q : Int) * (tN x : Int) + (cN x : Int)
def wtK (b : Nat) (x : Tk) (l : List Tk) (s : Int) : Nat → Int
  | 0 => s
  | k + 1 => max (wtK b x l s k) (tQ b x l k)
def waitN (b : Nat) (x : Tk) (l : List Tk) : Int := match setF (bF b x l) (b + cN x) with
  | none => -1
  | some y => wtK b x l 0 (upN (y + jN x) (tN x))
theorem wtK_ge (b : Nat) (x : Tk) (l : List Tk) (s : Int) : ∀ k, s ≤ wtK b x l s k
  | 0 => Int.le_refl _
  | k + 1 => by have := wtK_ge b x l s k; unfold wtK; omega
theorem wtK_start (b : Nat) {x : Tk} (l : List Tk) (hx : okT x = true) : ∀ k, wtK b x l (-1) (k + 1) = wtK b x l 0 (k + 1)
  | 0 => by
    obtain ⟨h1, h2, h3, h4, h5, -⟩ := okT_n hx
    simp only [wtK]
    unfold tQ
    omega
  | k + 1 => by
    rw [wtK, wtK_start b l hx k]
    rfl
theorem waitN_ge (b : Nat) (x : Tk) (l : List Tk) : -1 ≤ waitN b x l := by
  unfold waitN
  cases setF (bF b x l) (b + cN x) with
  | none => exact Int.le_refl _
  | some y => have := wtK_ge b x l 0 (upN (y + jN x) (tN x)); simp only; omega
theorem wQ_mono {b b' : Nat} {x : Tk} {l : List Tk} {busy busy' q : Nat} (hx : okT x = true) (hbb : b ≤ b') (h : bF b x l busy = busy) (hb : busy ≤ 200000) (h' : bF b' x l busy' = busy') (hb' : busy' ≤ 200000) (hq : q < upN (busy + jN x) (tN x)) (hq' : q < upN (busy' + jN x) (tN x)) : wQ b x l q ≤ wQ b' x l q := by
  obtain ⟨y, hy, hl, -⟩ := begin_is hx h hb hq
  obtain ⟨z, hz, hlz, -⟩ := begin_is hx h' hb' hq'
  unfold wQ
  rw [hy, hz]
  simp only [Option.getD_some]
  obtain ⟨z0, z1, -⟩ := hlz
  refine hl.2.2 z (by omega) ?_
  unfold gF at z1 ⊢
  omega
theorem wtK_le {b b' : Nat} {x : Tk} {l : List Tk} : ∀ {k k' : Nat}, k ≤ k' → (∀ q, q < k → wQ b x l q ≤ wQ b' x l q) → wtK b x l 0 k ≤ wtK b' x l 0 k'
  | 0, k', _, _ => wtK_ge b' x l 0 k'
  | k + 1, k', h, hq => by
    obtain ⟨m, rfl⟩ : ∃ m, k' = m + 1 := ⟨k' - 1, by omega⟩
    have h1 := wtK_le (k := k) (k' := m) (by omega) (fun q hq' => hq q (by omega))
    have h2 : tQ b x l k ≤ wtK b' x l 0 (m + 1) := by
      have h3 := hq k (by omega)
      have h4 : tQ b x l k ≤ tQ b' x l k := by unfold tQ; omega
      have h5 : ∀ n, k < n → tQ b' x l k ≤ wtK b' x l 0 n := by
        intro n
        induction n with
        | zero => intro h; omega
        | succ n ih =>
          intro h
          rw [wtK]
          by_cases e : k = n
          · subst e; omega
          · have := ih (by omega); omega
      exact Int.le_trans h4 (h5 _ (by omega))
    have h3 : wtK b' x l 0 m ≤ wtK b' x l 0 (m + 1) := by rw [wtK]; omega
    rw [wtK]
    omega
theorem wait_mono {b b' : Nat} {x : Tk} {l : List Tk} (hx : okT x = true) (hbb : b ≤ b') (h : 0 ≤ waitN b' x l) : 0 ≤ waitN b x l ∧ waitN b x l ≤ waitN b' x l := by
  unfold waitN at h ⊢
  cases h' : setF (bF b' x l) (b' + cN x) with
  | none => rw [h'] at h; simp only at h; omega
  | some y' =>
    obtain ⟨⟨l1, l2, l3⟩, l4⟩ := setF_some (bF_mono b' x l) (bF_from hx b' l) h'
    obtain ⟨y, hy, ⟨m1, m2, -⟩, hle⟩ := setF_is (bF_mono b x l) (bF_from hx b l) (m := y') (by omega) (by unfold bF at l2 ⊢; omega) l4
    rw [hy]
    simp only
    have hk : upN (y + jN x) (tN x) ≤ upN (y' + jN x) (tN x) := upN_mono (by omega)
    exact ⟨wtK_ge _ _ _ _ _, wtK_le hk (fun q hq => wQ_mono hx hbb m2 (by omega) l2 l4 hq (by omega))⟩
theorem mostT_from : ∀ (l : List Tk) (n : Nat), l.foldl (fun n x => max n (cN x)) n = max n (mostT l)
  | [], n => by simp [mostT]
  | x :: l, n => by
    have h1 := mostT_from l (max n (cN x))
    have h2 := mostT_from l (max 0 (cN x))
    unfold mostT at *
    simp only [List.foldl_cons]
    rw [h1, h2]
    omega
theorem mostT_snoc (l : List Tk) (x : Tk) : mostT (l ++ [x]) = max (mostT l) (cN x) := by
  unfold mostT; simp
theorem mostT_cons (l : List Tk) (x : Tk) : mostT (x :: l) = max (cN x) (mostT l) := by
  have := mostT_from l (max 0 (cN x))
  unfold mostT at *
  simp only [List.foldl_cons]
  rw [this]
  omega
theorem mostT_le : ∀ {l : List Tk}, (∀ x ∈ l, okT x = true) → mostT l ≤ 135
  | [], _ => by simp [mostT]
  | x :: l, h => by
    have h1 := mostT_le (l := l) (fun y hy => h y (List.mem_cons_of_mem _ hy))
    have h2 := (okT_n (h x (List.mem_cons_self ..))).2.1
    rw [mostT_cons]
    omega
/-- what is told of the tasks -/
def stopAt (l : List Tk) (i : Nat) : Int := waitN (mostT (l.drop (i + 1))) (l.getD i noT) (l.take i)
theorem more_any {l : List Tk} {x : Tk} (h : chkT (l ++ [x]) = 0) {i : Nat} (hi : i < l.length) (h0 : 0 ≤ stopAt (l ++ [x]) i) : 0 ≤ stopAt l i ∧ stopAt l i ≤ stopAt (l ++ [x]) i := by
  have hok := (chkT_ok h).2
  have e1 : (l ++ [x]).drop (i + 1) = l.drop (i + 1) ++ [x] := List.drop_append_of_le_length (by omega)
  have e2 : (l ++ [x]).take i = l.take i := List.take_append_of_le_length (by omega)
  have e3 : (l ++ [x]).getD i noT = l.getD i noT := by simp [List.getD, List.getElem?_append_left hi]
  have hm : l.getD i noT ∈ l ++ [x] := by
    have : l.getD i noT ∈ l := by simp [List.getD, hi]
    exact List.mem_append_left _ this
  unfold stopAt at h0 ⊢
  rw [e1, e2, e3, mostT_snoc] at h0 ⊢
  exact wait_mono (hok _ hm) (Nat.le_max_left _ _) h0
end Bw
end Go.Proofs.YtnhnemmddgofnaaDoor
namespace Go.Proofs.YtnhnemmddgofnaaDoor
open Go.ChangeShapes Go.WideShapes Go.ChangeAt Go.RowKit
namespace Bw
def Tk.val (r : Tk) : Value := .agg #[.int .i64 r.id, .int .i64 r.by_, .int .i64 r.ev, .int .i64 r.la, .int .i64 r.ji]
def tkC (r : Tk) : Obj := .cells #[.int .i64 r.id, .int .i64 r.by_, .int .i64 r.ev, .int .i64 r.la, .int .i64 r.ji] 31
theorem awD (w : World) (o : Obj) : Below w.heap.size w (w.alloc o) := (Below.refl _ _).alloc (Nat.le_refl _) _
theorem below_drD {w a : World} (h : Below w.heap.size w a) (n : Nat) : Below w.heap.size w (a.drewN n) := bl2 h ⟨rfl, rfl, rfl, Nat.le_refl _, fun _ _ => rfl⟩
theorem calls_same {f : Nat} {args : Array Value} {w : World} {v : Value} (h : Calls Tryd.prog f args w fun e w' => e = .returned v ∧ w' = w) : Calls Tryd.prog f args w fun e w' => e = .returned v ∧ Below w.heap.size w w' := h.mono (fun _ _ ⟨h1, h2⟩ => ⟨h1, h2 ▸ Below.refl _ _⟩)
/-- a task's cells from an address on -/
structure TkOn (w : World) (y : Addr) (r : Tk) : Prop where
  c0 : w.cell? y = some (.int .i64 r.id)
  c1 : w.cell? ⟨y.block, y.off + 1, none⟩ = some (.int .i64 r.by_)
  c2 : w.cell? ⟨y.block, y.off + 2, none⟩ = some (.int .i64 r.ev)
  c3 : w.cell? ⟨y.block, y.off + 3, none⟩ = some (.int .i64 r.la)
  c4 : w.cell? ⟨y.block, y.off + 4, none⟩ = some (.int .i64 r.ji)
theorem TkOn.kept {w w' : World} {y : Addr} {r : Tk} (h : TkOn w y r) (hb : Below w.heap.size w w') : TkOn w' y r :=
  ⟨cell_kept hb h.c0, cell_kept hb h.c1, cell_kept hb h.c2, cell_kept hb h.c3, cell_kept hb h.c4⟩
/-- a task's own variable -/
structure TkAt (w : World) (g : Nat) (r : Tk) : Prop where
  c0 : w.cell? ⟨g, 0, none⟩ = some (.int .i64 r.id)
  c1 : w.cell? ⟨g, 1, none⟩ = some (.int .i64 r.by_)
  c2 : w.cell? ⟨g, 2, none⟩ = some (.int .i64 r.ev)
  c3 : w.cell? ⟨g, 3, none⟩ = some (.int .i64 r.la)
  c4 : w.cell? ⟨g, 4, none⟩ = some (.int .i64 r.ji)
theorem TkAt.kept {w w' : World} {g : Nat} {r : Tk} (h : TkAt w g r) (hb : Below w.heap.size w w') : TkAt w' g r :=
  ⟨cell_kept hb h.c0, cell_kept hb h.c1, cell_kept hb h.c2, cell_kept hb h.c3, cell_kept hb h.c4⟩
theorem TkAt.new (w : World) (r : Tk) : TkAt (w.alloc (tkC r)) w.heap.size r := by
  have h := heap_alloc_new w (tkC r)
  unfold tkC at h ⊢
  exact ⟨cell_of_row _ _ 0 _ _ _ h, cell_of_row _ _ 1 _ _ _ h, cell_of_row _ _ 2 _ _ _ h, cell_of_row _ _ 3 _ _ _ h, cell_of_row _ _ 4 _ _ _ h⟩
/-- tasks in a row -/
structure IsTks (w : World) (a : Option Addr) (n cap : Nat) (l : List Tk) : Prop where
  len : l.length = n
  le : n ≤ cap
  max : cap ≤ maxLen
  none : a = none → n = 0
  cell : ∀ x, a = some x → ∀ i, i < n → TkOn w (x.add (i * 5)) (l.getD i noT)
theorem IsTks.kept {w w' : World} {a : Option Addr} {n cap : Nat} {l : List Tk} (h : IsTks w a n cap l) (hb : Below w.heap.size w w') : IsTks w' a n cap l :=
  ⟨h.len, h.le, h.max, h.none, fun x hx i hi => (h.cell x hx i hi).kept hb⟩
theorem IsTks.some {w : World} {a : Option Addr} {n cap : Nat} {l : List Tk} (h : IsTks w a n cap l) {i : Nat} (hi : i < n) : ∃ x, a = some x := by
  cases a with
  | none => exact absurd (h.none rfl) (by omega)
  | some x => exact ⟨x, rfl⟩
theorem mlenD {a : Nat} (h : a ≤ maxLen) : (a : Int) ≤ 9223372036854775807 := by unfold maxLen at h; omega
theorem getD_memT {l : List Tk} {i : Nat} (h : i < l.length) : l.getD i noT ∈ l := by simp [List.getD, h]
theorem drop_consT {l : List Tk} {i : Nat} (h : i < l.length) : l.drop i = l.getD i noT :: l.drop (i + 1) := by
  rw [List.drop_eq_getElem_cons h]; simp [List.getD, h]
theorem take_snocT {l : List Tk} {k : Nat} (h : k < l.length) : l.take (k + 1) = l.take k ++ [l.getD k noT] := by
  rw [List.take_succ_eq_append_getElem h]; simp [List.getD, h]
/-- the ID of the one ahead -/
def prevT (l : List Tk) (k : Nat) : Int := if k = 0 then -1 else (l.getD (k - 1) noT).id
end Bw
end Go.Proofs.YtnhnemmddgofnaaDoor
