/- What is to be asked for when, task by task; and one step of the play; of no program. -/
import Derived.Test.YtnhnemmddgofnaaDoorS1
namespace Go.Proofs.YtnhnemmddgofnaaDoor
namespace Sb
open Bw (Tk noT cN tN jN okT okT_n chkT chkT_ok)
open Classical
/-- a message: when it is to be asked for, when it is -/
abbrev Ms := Nat × Nat
abbrev AR := Int × List (List Ms)
def takesL (x : Tk) (lt : List Int) : Bool := decide (jN x ≠ 0) && decide (lt.length ≠ 0)
def lv (lt : List Int) (k : Nat) : Int := lt.getD (k % lt.length) 0
def badL (x : Tk) (lt : List Int) (k : Nat) : Bool := takesL x lt && decide (lv lt k < 0)
def lateN (x : Tk) (lt : List Int) (k : Nat) : Nat := if takesL x lt = true then (lv lt k).toNat % (jN x + 1) else 0
def nextK (x : Tk) (lt : List Int) (k : Nat) : Nat := if takesL x lt = true then k + 1 else k
/-- one task's messages from a time on, and what comes behind them -/
def runI (x : Tk) (lt : List Int) (e : Nat) (K : List Ms → Nat → Nat → AR) : Nat → List Ms → Nat → Nat → AR
  | 0, ms, due, k => if due < e then (if badL x lt k = true then (3, []) else (2, [])) else K ms 0 k
  | room + 1, ms, due, k => if due < e then (if badL x lt k = true then (3, []) else runI x lt e K room (ms ++ [(due, due + lateN x lt k)]) (due + tN x) (nextK x lt k)) else K ms (room + 1) k
theorem runI_end {x : Tk} {lt : List Int} {e : Nat} {K : List Ms → Nat → Nat → AR} {room : Nat} {ms : List Ms} {due k : Nat} (h : ¬ due < e) : runI x lt e K room ms due k = K ms room k := by
  cases room <;> rw [runI, if_neg h]
theorem runI_bad {x : Tk} {lt : List Int} {e : Nat} {K : List Ms → Nat → Nat → AR} {room : Nat} {ms : List Ms} {due k : Nat} (h : due < e) (hb : badL x lt k = true) : runI x lt e K room ms due k = (3, []) := by
  cases room <;> rw [runI, if_pos h, if_pos hb]
theorem runI_many {x : Tk} {lt : List Int} {e : Nat} {K : List Ms → Nat → Nat → AR} {ms : List Ms} {due k : Nat} (h : due < e) (hb : badL x lt k = false) : runI x lt e K 0 ms due k = (2, []) := by
  rw [runI, if_pos h, if_neg (by rw [hb]; simp)]
theorem runI_more {x : Tk} {lt : List Int} {e : Nat} {K : List Ms → Nat → Nat → AR} {room : Nat} {ms : List Ms} {due k : Nat} (h : due < e) (hb : badL x lt k = false) : runI x lt e K (room + 1) ms due k = runI x lt e K room (ms ++ [(due, due + lateN x lt k)]) (due + tN x) (nextK x lt k) := by
  rw [runI, if_pos h, if_neg (by rw [hb]; simp)]
def isTm (f : Int) : Bool := decide (0 ≤ f) && decide (f ≤ 1000000)
theorem isTm_iff {f : Int} : isTm f = true ↔ 0 ≤ f ∧ f ≤ 1000000 := by unfold isTm; simp
/-- all tasks' -/
def runT (lt : List Int) (e : Nat) : List (Tk × Int) → List (List Ms) → Nat → Nat → AR
  | [], M, _, _ => (0, M)
  | p :: r, M, room, k => if isTm p.2 = true then runI p.1 lt e (fun ms room k => runT lt e r (M ++ [ms]) room k) room [] p.2.toNat k else (3, [])
/-- a row of one task's messages so far -/
def PartM (x : Tk) (f e : Nat) (ms : List Ms) : Prop := ∀ j, j < ms.length → (ms.getD j (0, 0)).1 = f + j * tN x ∧ (ms.getD j (0, 0)).1 < e ∧ (ms.getD j (0, 0)).1 ≤ (ms.getD j (0, 0)).2 ∧ (ms.getD j (0, 0)).2 ≤ (ms.getD j (0, 0)).1 + jN x
def GoodM (x : Tk) (f e : Nat) (ms : List Ms) : Prop := PartM x f e ms ∧ e ≤ f + ms.length * tN x
theorem PartM.nil (x : Tk) (f e : Nat) : PartM x f e [] := fun _ h => absurd h (Nat.not_lt_zero _)
theorem lateN_le (x : Tk) (lt : List Int) (k : Nat) : lateN x lt k ≤ jN x := by
  unfold lateN
  split
  · have := Nat.mod_lt (lv lt k).toNat (show 0 < jN x + 1 by omega)
    omega
  · omega
theorem PartM.snoc {x : Tk} {f e : Nat} {ms : List Ms} (h : PartM x f e ms) {due n : Nat} (hd : due = f + ms.length * tN x) (he : due < e) (hn : n ≤ jN x) : PartM x f e (ms ++ [(due, due + n)]) := by
  intro j hj
  rw [List.length_append, List.length_singleton] at hj
  by_cases e1 : j = ms.length
  · subst e1
    have : (ms ++ [(due, due + n)]).getD ms.length (0, 0) = (due, due + n) := by simp [List.getD]
    rw [this]
    simp only
    omega
  · have : (ms ++ [(due, due + n)]).getD j (0, 0) = ms.getD j (0, 0) := by simp [List.getD, List.getElem?_append_left (show j < ms.length by omega)]
    rw [this]
    exact h j (by omega)
theorem runI_ok {x : Tk} {lt : List Int} {e f : Nat} {K : List Ms → Nat → Nat → AR} {Q : List (List Ms)} : ∀ {room : Nat} {ms : List Ms} {due k : Nat}, runI x lt e K room ms due k = (0, Q) → PartM x f e ms → due = f + ms.length * tN x → ∃ ms' room' k', GoodM x f e ms' ∧ room' + ms'.length = room + ms.length ∧ K ms' room' k' = (0, Q)
  | room, ms, due, k, h, hp, hd => by
    by_cases hlt : due < e
    · cases hb : badL x lt k with
      | true => rw [runI_bad hlt hb] at h; cases h
      | false =>
        cases room with
        | zero => rw [runI_many hlt hb] at h; cases h
        | succ room =>
          rw [runI_more hlt hb] at h
          obtain ⟨ms', room', k', h1, h2, h3⟩ := runI_ok h (hp.snoc hd hlt (lateN_le x lt k)) (by rw [List.length_append, List.length_singleton, Nat.add_mul]; omega)
          refine ⟨ms', room', k', h1, ?_, h3⟩
          rw [List.length_append, List.length_singleton] at h2
          omega
    · rw [runI_end hlt] at h
      exact ⟨ms, room, k, ⟨hp, by omega⟩, rfl, h⟩
def noP : Tk × Int := (noT, 0)
def lens (Q : List (List Ms)) : Nat := (Q.map List.length).sum
theorem runT_ok {lt : List Int} {e : Nat} : ∀ {r : List (Tk × Int)} {M : List (List Ms)} {room k : Nat} {Q : List (List Ms)}, runT lt e r M room k = (0, Q) → ∃ R, Q = M ++ R ∧ R.length = r.length ∧ (∀ i, i < r.length → isTm (r.getD i noP).2 = true ∧ GoodM (r.getD i noP).1 (r.getD i noP).2.toNat e (R.getD i [])) ∧ lens R ≤ room
  | [], M, room, k, Q, h => by
    rw [runT] at h
    cases h
    exact ⟨[], by simp, rfl, fun i hi => absurd hi (Nat.not_lt_zero _), Nat.zero_le _⟩
  | p :: r, M, room, k, Q, h => by
    rw [runT] at h
    by_cases hf : isTm p.2 = true
    · rw [if_pos hf] at h
      obtain ⟨ms, room', k', h1, h2, h3⟩ := runI_ok h (PartM.nil p.1 p.2.toNat e) (by simp)
      obtain ⟨R, e1, e2, e3, e4⟩ := runT_ok h3
      refine ⟨ms :: R, by rw [e1]; simp, by rw [List.length_cons, List.length_cons, e2], fun i hi => ?_, ?_⟩
      · cases i with
        | zero => exact ⟨hf, h1⟩
        | succ i =>
          rw [List.length_cons] at hi
          exact e3 i (by omega)
      · unfold lens at e4 ⊢
        rw [List.map_cons, List.sum_cons]
        rw [List.length_nil] at h2
        omega
    · rw [if_neg hf] at h
      cases h
/-- all that are to be asked for, as one list -/
def asksF : Nat → List (List Ms) → List Ask
  | _, [] => []
  | i, q :: Q => q.map (fun m => ⟨i, m.1, m.2⟩) ++ asksF (i + 1) Q
def asks (Q : List (List Ms)) : List Ask := asksF 0 Q
theorem mem_asksF : ∀ {i : Nat} {Q : List (List Ms)} {x : Ask}, x ∈ asksF i Q → ∃ j m, j < Q.length ∧ m ∈ Q.getD j [] ∧ x = ⟨i + j, m.1, m.2⟩
  | _, [], _, h => by cases h
  | i, q :: Q, x, h => by
    unfold asksF at h
    rcases List.mem_append.1 h with h | h
    · obtain ⟨m, hm, rfl⟩ := List.mem_map.1 h
      exact ⟨0, m, by simp, hm, rfl⟩
    · obtain ⟨j, m, h1, h2, rfl⟩ := mem_asksF h
      exact ⟨j + 1, m, by simp; omega, h2, by rw [Ask.mk.injEq]; exact ⟨by omega, rfl, rfl⟩⟩
theorem mem_asks {Q : List (List Ms)} {x : Ask} (h : x ∈ asks Q) : ∃ m, x.k < Q.length ∧ m ∈ Q.getD x.k [] ∧ x.d = m.1 ∧ x.a = m.2 := by
  obtain ⟨j, m, h1, h2, rfl⟩ := mem_asksF h
  simp only [Nat.zero_add]
  exact ⟨m, h1, h2, rfl, rfl⟩
theorem asksF_mem : ∀ {i j : Nat} {Q : List (List Ms)} {m : Ms}, j < Q.length → m ∈ Q.getD j [] → (⟨i + j, m.1, m.2⟩ : Ask) ∈ asksF i Q
  | _, _, [], _, h, _ => by simp at h
  | i, 0, q :: Q, m, _, hm => by
    unfold asksF
    exact List.mem_append_left _ (List.mem_map.2 ⟨m, hm, rfl⟩)
  | i, j + 1, q :: Q, m, h, hm => by
    unfold asksF
    have h1 := asksF_mem (i := i + 1) (j := j) (Q := Q) (m := m) (by simp at h; omega) hm
    rw [show i + 1 + j = i + (j + 1) by omega] at h1
    exact List.mem_append_right _ h1
theorem asksF_len : ∀ (i : Nat) (Q : List (List Ms)), (asksF i Q).length = lens Q
  | _, [] => rfl
  | i, q :: Q => by
    unfold asksF lens
    rw [List.length_append, List.length_map, asksF_len (i + 1) Q, List.map_cons, List.sum_cons]
    rfl
theorem asksF_set : ∀ {i j : Nat} {Q : List (List Ms)} {m : Ms} {tl : List Ms}, j < Q.length → Q.getD j [] = m :: tl → asksF i (Q.set j tl) = (asksF i Q).erase ⟨i + j, m.1, m.2⟩
  | _, _, [], _, _, h, _ => by simp at h
  | i, 0, q :: Q, m, tl, _, hq => by
    have hq' : q = m :: tl := hq
    subst hq'
    rw [List.set_cons_zero]
    unfold asksF
    rw [List.map_cons, List.cons_append, show i + 0 = i from rfl, List.erase_cons_head]
  | i, j + 1, q :: Q, m, tl, h, hq => by
    rw [List.set_cons_succ]
    unfold asksF
    rw [List.erase_append_right]
    · rw [asksF_set (i := i + 1) (j := j) (Q := Q) (m := m) (tl := tl) (by simp at h; omega) hq, show i + 1 + j = i + (j + 1) by omega]
    · intro hx
      obtain ⟨m', -, e⟩ := List.mem_map.1 hx
      have := congrArg Ask.k e
      simp only at this
      omega
def SortedR (q : List Ms) : Prop := q.Pairwise (fun a b => a.1 < b.1 ∧ a.2 ≤ b.2)
def SortedQ (Q : List (List Ms)) : Prop := ∀ j, j < Q.length → SortedR (Q.getD j [])
theorem GoodM.sorted {x : Tk} {f e : Nat} {ms : List Ms} (h : GoodM x f e ms) (hx : jN x < tN x) : SortedR ms := by
  unfold SortedR
  rw [List.pairwise_iff_getElem]
  intro i j hi hj hij
  have h1 := h.1 i hi
  have h2 := h.1 j hj
  have e1 : ms.getD i (0, 0) = ms[i] := by simp [List.getD, hi]
  have e2 : ms.getD j (0, 0) = ms[j] := by simp [List.getD, hj]
  rw [e1] at h1
  rw [e2] at h2
  have := Nat.mul_le_mul_right (tN x) (show i + 1 ≤ j from hij)
  rw [Nat.add_mul, Nat.one_mul] at this
  omega
theorem getD_set_same {Q : List (List Ms)} {j : Nat} {tl : List Ms} (h : j < Q.length) : (Q.set j tl).getD j [] = tl := by simp [List.getD, h]
theorem getD_set_other {Q : List (List Ms)} {i j : Nat} {tl : List Ms} (h : i ≠ j) : (Q.set i tl).getD j [] = Q.getD j [] := by simp [List.getD, List.getElem?_set_ne h]
theorem SortedQ.tail {Q : List (List Ms)} (h : SortedQ Q) {i : Nat} {m : Ms} {tl : List Ms} (hi : i < Q.length) (hq : Q.getD i [] = m :: tl) : SortedQ (Q.set i tl) := by
  intro j hj
  rw [List.length_set] at hj
  by_cases e : i = j
  · subst e
    rw [getD_set_same hi]
    have := h i hi
    rw [hq] at this
    exact (List.pairwise_cons.1 this).2
  · rw [getD_set_other e]
    exact h j hj
/-- one goes -/
theorem play_step {C : Nat → Nat} {Q : List (List Ms)} {free t i : Nat} {m : Ms} {tl : List Ms} {S : List Sl} (hs : SortedQ Q) (ht : ∀ j m' tl', j < Q.length → Q.getD j [] = m' :: tl' → t ≤ m'.2) (hi : i < Q.length) (hq : Q.getD i [] = m :: tl) (hm : m.2 ≤ max t free)
    (hf : ∀ j m' tl', j < i → Q.getD j [] = m' :: tl' → ¬ m'.2 ≤ max t free) (h : Play C (max t free + C i) (asks (Q.set i tl)) S) : Play C free (asks Q) (⟨i, m.1, m.2, max t free⟩ :: S) := by
  have hhead : ∀ x ∈ asks Q, ∃ m' tl', x.k < Q.length ∧ Q.getD x.k [] = m' :: tl' ∧ m'.2 ≤ x.a ∧ m'.1 ≤ x.d := by
    intro x hx
    obtain ⟨y, h1, h2, h3, h4⟩ := mem_asks hx
    have h5 := hs x.k h1
    cases hr : Q.getD x.k [] with
    | nil => rw [hr] at h2; cases h2
    | cons m' tl' =>
      refine ⟨m', tl', h1, rfl, ?_⟩
      rw [hr] at h2 h5
      rcases List.mem_cons.1 h2 with rfl | h2
      · omega
      · have := (List.pairwise_cons.1 h5).1 y h2
        omega
  have hb : (⟨i, m.1, m.2⟩ : Ask) ∈ asks Q := by
    have := asksF_mem (i := 0) (j := i) (Q := Q) (m := m) hi (by rw [hq]; exact List.mem_cons_self)
    rw [Nat.zero_add] at this
    exact this
  have he : asks (Q.set i tl) = (asks Q).erase ⟨i, m.1, m.2⟩ := by
    have := asksF_set (i := 0) hi hq
    rw [Nat.zero_add] at this
    exact this
  refine Play.go free (max t free) (asks Q) ⟨i, m.1, m.2⟩ S hb (by omega) hm (fun x hx hxa => ?_) ?_ (by rw [← he]; exact h)
  · obtain ⟨m', tl', h1, h2, h3, h4⟩ := hhead x hx
    by_cases hxi : x.k < i
    · exact absurd (by omega) (hf x.k m' tl' hxi h2)
    · by_cases hk : i = x.k
      · right
        rw [← hk, hq] at h2
        obtain ⟨rfl, -⟩ := List.cons.inj h2
        exact ⟨hk, h4⟩
      · left
        show i < x.k
        omega
  · by_cases htf : t ≤ free
    · left; omega
    · right
      intro x hx
      obtain ⟨m', tl', h1, h2, h3, h4⟩ := hhead x hx
      have := ht x.k m' tl' h1 h2
      omega
theorem key_nodupF : ∀ {i : Nat} {Q : List (List Ms)}, (∀ j, j < Q.length → SortedR (Q.getD j [])) → ((asksF i Q).map key).Nodup
  | _, [], _ => List.nodup_nil
  | i, q :: Q, h => by
    unfold asksF
    rw [List.map_append, List.nodup_append]
    refine ⟨?_, key_nodupF (fun j hj => h (j + 1) (by simp; omega)), ?_⟩
    · have h0 : SortedR q := h 0 (by simp)
      rw [List.map_map]
      refine List.Pairwise.map _ (fun a b hab => ?_) h0
      intro e
      have := congrArg Prod.snd e
      simp only [Function.comp, key] at this
      omega
    · intro a ha b hb e
      obtain ⟨x, hx, rfl⟩ := List.mem_map.1 ha
      obtain ⟨y, hy, rfl⟩ := List.mem_map.1 hb
      obtain ⟨m, -, rfl⟩ := List.mem_map.1 hx
      obtain ⟨j, m', -, -, rfl⟩ := mem_asksF hy
      have := congrArg Prod.fst e
      simp only [key] at this
      omega
theorem key_nodup {Q : List (List Ms)} (h : SortedQ Q) : ((asks Q).map key).Nodup := key_nodupF h
/-- what comes of right lists, as one word -/
structure Asked (l : List Tk) (fs : List Int) (e : Nat) (Q : List (List Ms)) : Prop where
  len : Q.length = l.length
  tm : ∀ i, i < l.length → isTm (fs.getD i 0) = true
  row : ∀ i, i < l.length → GoodM (l.getD i noT) (fs.getD i 0).toNat e (Q.getD i [])
  few : lens Q ≤ 1000
theorem zip_getD {l : List Tk} {fs : List Int} (h : fs.length = l.length) {i : Nat} (hi : i < l.length) : (l.zip fs).getD i noP = (l.getD i noT, fs.getD i 0) := by
  have h1 : i < (l.zip fs).length := by rw [List.length_zip]; omega
  unfold List.getD
  rw [List.getElem?_eq_getElem h1, List.getElem?_eq_getElem hi, List.getElem?_eq_getElem (show i < fs.length by omega)]
  simp
theorem asked_of {l : List Tk} {fs lt : List Int} {e : Nat} {Q : List (List Ms)} (hl : fs.length = l.length) (h : runT lt e (l.zip fs) [] 1000 0 = (0, Q)) : Asked l fs e Q := by
  obtain ⟨R, h1, h2, h3, h4⟩ := runT_ok h
  rw [List.nil_append] at h1
  subst h1
  have hz : (l.zip fs).length = l.length := by rw [List.length_zip, hl]; omega
  rw [hz] at h2 h3
  refine ⟨h2, fun i hi => ?_, fun i hi => ?_, h4⟩
  · have := (h3 i hi).1
    rw [zip_getD hl hi] at this
    exact this
  · have := (h3 i hi).2
    rw [zip_getD hl hi] at this
    exact this
theorem Asked.sorted {l : List Tk} {fs : List Int} {e : Nat} {Q : List (List Ms)} (h : Asked l fs e Q) (hl : chkT l = 0) : SortedQ Q := by
  intro j hj
  rw [h.len] at hj
  exact (h.row j hj).sorted (okT_n ((chkT_ok hl).2 _ (getD_memT hj))).2.2.2.2.1
theorem getD_of_mem {q : List Ms} {m : Ms} (h : m ∈ q) : ∃ j, j < q.length ∧ q.getD j (0, 0) = m := by
  obtain ⟨j, hj, rfl⟩ := List.getElem_of_mem h
  exact ⟨j, hj, by simp [List.getD, hj]⟩
theorem Asked.run {l : List Tk} {fs : List Int} {e : Nat} {Q : List (List Ms)} (h : Asked l fs e Q) (hl : chkT l = 0) {S : List Sl} (hS : Play (cT l) 0 (asks Q) S) : Run (cT l) (tT l) (jT l) (fun k => (fs.getD k 0).toNat) S ∧ ∀ x ∈ S, x.k < l.length := by
  have hok := (chkT_ok hl).2
  have hm : ∀ x ∈ asks Q, x.k < l.length ∧ ∃ j, x.d = (fs.getD x.k 0).toNat + j * tT l x.k ∧ x.d ≤ x.a ∧ x.a ≤ x.d + jT l x.k := by
    intro x hx
    obtain ⟨m, h1, h2, h3, h4⟩ := mem_asks hx
    rw [h.len] at h1
    obtain ⟨j, hj, e1⟩ := getD_of_mem h2
    have h5 := (h.row x.k h1).1 j hj
    rw [e1] at h5
    rw [h3, h4]
    exact ⟨h1, j, h5.1, h5.2.2.1, h5.2.2.2⟩
  refine ⟨hS.run (key_nodup (h.sorted hl)) (fun x hx => ?_) (fun x hx => ?_) (fun x hx => ?_) (fun x hx => ?_), fun x hx => (hm _ (hS.mem x hx)).1⟩
  · obtain ⟨-, j, -, h3, h4⟩ := hm x hx
    exact ⟨h3, h4⟩
  · obtain ⟨-, j, h2, -⟩ := hm x hx
    exact ⟨j, h2⟩
  · have := okT_n (hok _ (getD_memT (hm x hx).1))
    unfold cT
    omega
  · have := okT_n (hok _ (getD_memT (hm x hx).1))
    unfold jT tT
    omega
end Sb
end Go.Proofs.YtnhnemmddgofnaaDoor
