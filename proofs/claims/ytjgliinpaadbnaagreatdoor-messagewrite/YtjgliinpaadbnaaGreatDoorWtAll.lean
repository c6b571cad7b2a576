/- What MessageWrite answers: true. -/
import Derived.Test.YtjgliinpaadbnaaGreatDoorMgWriteA
import Derived.Test.YtjgliinpaadbnaaGreatDoorRpA
import Derived.Test.YtjgliinpaadbnaaGreatDoorMsgRow
import Derived.Lib.AppendZeros
import Derived.Deep.OwnRows
import Derived.Deep.RegionHeld3
import Derived.Deep.DeepCutAuto
import Derived.Lib.QuietBelow
import Derived.BigQuiet
import Derived.Test.YtjgliinpaadbnaaGreatDoorRows
import Derived.Test.YtjgliinpaadbnaaGreatDoorRefFrame
import Derived.Test.YtjgliinpaadbnaaGreatDoorMsgOpen
import Derived.Test.YtjgliinpaadbnaaGreatDoorSizesRow
namespace Go.Proofs.YtjgliinpaadbnaaGreatDoor
open Go.ChangeShapes Go.WideShapes Go.ChangeAt Go.RowKit
namespace Bw
open Sm
/-- the law's loop over a list of signals: the error, the bytes, how many were written -/
def lwE (m : Msg) (l : List Rd) : List Sig → List UInt8 → Nat → Int × List UInt8 × Nat
  | [], d, u => (0, d, u)
  | s :: r, d, u => if thB (choD m d) s = true then (if (putW l s d).1 = 0 then lwE m l r (putW l s d).2 (u + 1) else ((putW l s d).1, [], 0)) else lwE m l r d u
theorem putW_len {l : List Rd} {s : Sig} {d : List UInt8} (h : (putW l s d).1 = 0) : (putW l s d).2.length = d.length := by
  unfold putW at h ⊢
  split at h
  · simp at h
  · rename_i r hf
    by_cases hz : rwE s r.num r.den = 0
    · simp only [if_pos hz]
      exact wrD_len _ _ _ _
    · simp only [if_neg hz] at h
      exact absurd h hz
theorem wr_otherW {s t : Sig} {n : Nat} {d : List UInt8} (h' : chkS t n = 0) (ho : ovS s t = false) (hd : d.length = n) (num den : Int) : rawD s (wrD t d num den) = rawD s d := by
  have hR' := rt_of h'
  have ha := ovN_apart (show ovN s.bk s.st.toNat s.sz.toNat t.bk t.st.toNat t.sz.toNat = false from ho)
  have hu : uN s.bk s.st.toNat s.sz.toNat (wrD t d num den) = uN s.bk s.st.toNat s.sz.toNat d := by
    unfold uN
    exact sumK_congr (fun i hi => wrS_other hR' hd _ (fun j hj e => ha j hj i hi e.symm))
  unfold rawD rawR
  rw [hu]
theorem cho_putW {m : Msg} (hO : OkM m) {n : Nat} (hn : m.size = n) (l : List Rd) {c : Int} {i : Nat} (hi : i < m.sigs.length) (hne : (i : Int) ≠ m.ch) (ht : thB c (m.at i) = true) {d : List UInt8} (hd : d.length = n) (hz : (putW l (m.at i) d).1 = 0) : choD m (putW l (m.at i) d).2 = choD m d := by
  by_cases hc : 0 ≤ m.ch
  · have h1 := hO.ch1
    have hs := hO.sig hi
    rw [hn] at hs
    have htc : thB c (m.at m.ch.toNat) = true := by
      unfold thB
      rw [hO.choo hc]
      rfl
    have hap := there_apart hO (i := m.ch.toNat) (j := i) (by omega) hi (by omega) htc ht
    unfold choD
    rw [if_pos hc, if_pos hc]
    unfold putW at hz ⊢
    split at hz
    · simp at hz
    · rename_i r hf
      by_cases he : rwE (m.at i) r.num r.den = 0
      · simp only [if_pos he]
        exact wr_otherW hs hap hd _ _
      · simp only [if_neg he] at hz
        exact absurd hz he
  · unfold choD
    rw [if_neg hc, if_neg hc]
/-- where what is there stays so, the law's loop is the program's -/
theorem lw_go {m : Msg} {l : List Rd} {n : Nat} {c : Int} : ∀ (L : List Sig) (d : List UInt8) (u : Nat), d.length = n → choD m d = c →
    (∀ s ∈ L, ∀ d, d.length = n → thB c s = true → (putW l s d).1 = 0 → choD m (putW l s d).2 = choD m d) →
    lwE m l L d u = ((goE (putW l) (L.filter (thB c)) d).1, (goE (putW l) (L.filter (thB c)) d).2, if (goE (putW l) (L.filter (thB c)) d).1 = 0 then u + (L.filter (thB c)).length else 0)
  | [], d, u, _, _, _ => by simp [lwE, goE]
  | s :: r, d, u, hd, hc, hk => by
    by_cases ht : thB c s = true
    · rw [List.filter_cons_of_pos ht]
      simp only [lwE, goE, hc, if_pos ht]
      by_cases hz : (putW l s d).1 = 0
      · simp only [if_pos hz]
        rw [lw_go r _ (u + 1) (by rw [putW_len hz, hd]) (by rw [hk s (by simp) d hd ht hz, hc]) (fun t ht' => hk t (by simp [ht']))]
        simp only [List.length_cons]
        rw [show u + 1 + (r.filter (thB c)).length = u + ((r.filter (thB c)).length + 1) by omega]
      · simp only [if_neg hz]
    · rw [List.filter_cons_of_neg ht]
      simp only [lwE, hc, if_neg ht]
      exact lw_go r d u hd hc (fun t ht' => hk t (by simp [ht']))
/-- the order in which the law writes -/
def ordL (m : Msg) : List Sig := if 0 ≤ m.ch then m.at m.ch.toNat :: (m.sigs.take m.ch.toNat ++ m.sigs.drop (m.ch.toNat + 1)) else m.sigs
theorem range_out {α : Type} (f : Nat → α) (c : Nat) : ∀ N, ((List.range N).filter (fun i => !(i == c))).map f = ((List.range N).map f).take c ++ ((List.range N).map f).drop (c + 1)
  | 0 => by simp
  | N + 1 => by
    have ih := range_out f c N
    rw [List.range_succ, List.filter_append, List.map_append, List.map_append, ih]
    have hl : ((List.range N).map f).length = N := by simp
    rcases Nat.lt_trichotomy N c with h | h | h
    · have e1 : ([N].filter (fun i => !(i == c))) = [N] := by
        have : (N == c) = false := by simp; omega
        simp [this]
      rw [e1, List.take_of_length_le (by omega), List.drop_of_length_le (by omega), List.take_of_length_le (by simp; omega), List.drop_of_length_le (by simp; omega)]
      simp
    · subst h
      have e1 : ([N].filter (fun i => !(i == N))) = [] := by simp
      rw [e1, List.take_of_length_le (by omega), List.drop_of_length_le (by omega), List.drop_of_length_le (by simp)]
      rw [List.take_append_of_le_length (by omega), List.take_of_length_le (by omega)]
      simp
    · have e1 : ([N].filter (fun i => !(i == c))) = [N] := by
        have : (N == c) = false := by simp; omega
        simp [this]
      rw [e1, List.take_append_of_le_length (by omega), List.drop_append_of_le_length (by omega)]
      simp
theorem oth_list {m : Msg} (c : Int) (hc : 0 ≤ m.ch) : othK m c m.sigs.length = (m.sigs.take m.ch.toNat ++ m.sigs.drop (m.ch.toNat + 1)).filter (thB c) := by
  have h1 := range_out m.at m.ch.toNat m.sigs.length
  rw [← sigs_range m] at h1
  rw [← h1, List.filter_map]
  unfold othK
  rw [List.filter_filter]
  congr 1
  refine List.filter_congr (fun i _ => ?_)
  unfold othB
  have e : ((i : Int) == m.ch) = (i == m.ch.toNat) := by
    by_cases h : (i : Int) = m.ch
    · have h2 : i = m.ch.toNat := by omega
      rw [show ((i : Int) == m.ch) = true by simpa using h, show (i == m.ch.toNat) = true by simpa using h2]
    · have h2 : ¬ i = m.ch.toNat := by omega
      rw [show ((i : Int) == m.ch) = false by simpa using h, show (i == m.ch.toNat) = false by simpa using h2]
  rw [e]
  simp only [Function.comp, Bool.and_comm]
theorem oth_none {m : Msg} (c : Int) (hc : m.ch < 0) : othK m c m.sigs.length = m.sigs.filter (thB c) := by
  have h1 := sigs_range m
  have h2 : m.sigs.filter (thB c) = ((List.range m.sigs.length).map m.at).filter (thB c) := by rw [← h1]
  rw [h2, List.filter_map]
  unfold othK
  congr 1
  refine List.filter_congr (fun i _ => ?_)
  unfold othB
  rw [show ((i : Int) == m.ch) = false by simp; omega]
  simp
theorem zeros_len {m : Msg} {n : Nat} (hn : m.size = n) : (zerosM m).length = n := by
  unfold zerosM
  rw [hn]
  simp
/-- what the law's loop answers in all -/
def lwR (m : Msg) (l : List Rd) : Int × List UInt8 × Nat := lwE m l (ordL m) (zerosM m) 0
theorem lw_all {m : Msg} (hO : OkM m) {n : Nat} (hn : m.size = n) (l : List Rd) :
    (lwR m l).1 = (fillE (putW l) m).1 ∧ ((lwR m l).1 = 0 → (lwR m l).2.1 = (fillE (putW l) m).2 ∧ (lwR m l).2.2 = (usedL (putW l) m).length) := by
  have hz := zeros_len (m := m) hn
  by_cases hc : 0 ≤ m.ch
  · have h1 := hO.ch1
    have hky := hO.choo hc
    have hth : thB (choD m (zerosM m)) (m.at m.ch.toNat) = true := by unfold thB; rw [hky]; rfl
    have hce : chooE (putW l) m = putW l (m.at m.ch.toNat) (zerosM m) := by unfold chooE; rw [if_pos hc]
    unfold lwR ordL
    rw [if_pos hc]
    simp only [lwE, if_pos hth]
    unfold fillE usedL
    rw [hce, if_pos hc]
    by_cases hp : (putW l (m.at m.ch.toNat) (zerosM m)).1 = 0
    · rw [if_pos hp, if_pos hp, oth_list _ hc]
      rw [lw_go (n := n) (c := choD m (putW l (m.at m.ch.toNat) (zerosM m)).2) _ _ _ (by rw [putW_len hp, hz]) rfl (fun s hs d hd ht hzz => by
        have hr := range_out m.at m.ch.toNat m.sigs.length
        rw [← sigs_range m] at hr
        rw [← hr, List.mem_map] at hs
        obtain ⟨i, hi, rfl⟩ := hs
        rw [List.mem_filter, List.mem_range] at hi
        exact cho_putW hO hn l hi.1 (by
          have h2 : ¬ i = m.ch.toNat := by simpa using hi.2
          omega) ht hd hzz)]
      refine ⟨rfl, fun h => ⟨rfl, ?_⟩⟩
      simp only at h
      simp only [if_pos h, List.length_append, List.length_cons, List.length_nil, List.length_map]
    · rw [if_neg hp, if_neg hp]
      exact ⟨rfl, fun h => absurd h hp⟩
  · have hce : chooE (putW l) m = (0, zerosM m) := by unfold chooE; rw [if_neg hc]
    unfold lwR ordL fillE usedL
    rw [if_neg hc, hce, if_neg hc]
    simp only [if_true]
    rw [oth_none _ (by omega)]
    rw [lw_go (n := n) (c := choD m (zerosM m)) _ _ _ hz rfl (fun s hs d hd ht hzz => by
      unfold choD
      rw [if_neg hc, if_neg hc])]
    refine ⟨rfl, fun h => ⟨rfl, ?_⟩⟩
    simp only at h
    simp only [if_pos h, List.length_append, List.length_nil, List.length_map]
/-- Write's error, by the law's loop -/
theorem writeE_lw {m : Msg} (hO : OkM m) (hC : chkM m = 0) {n : Nat} (hn : m.size = n) (l : List Rd) :
    writeE m l = if dupE l ≠ 0 then 9 else if (lwR m l).1 ≠ 0 then (lwR m l).1 else if (lwR m l).2.2 < l.length then 8 else 0 := by
  obtain ⟨h1, h2⟩ := lw_all hO hn l
  unfold writeE
  rw [if_neg (by rw [hC]; simp), h1]
  by_cases hd : dupE l ≠ 0
  · rw [if_pos hd, if_pos hd]
  · rw [if_neg hd, if_neg hd]
    by_cases he : (fillE (putW l) m).1 ≠ 0
    · rw [if_pos he, if_pos he]
    · rw [if_neg he, if_neg he, (h2 (by rw [h1]; exact Decidable.not_not.1 he)).2]
end Bw
end Go.Proofs.YtjgliinpaadbnaaGreatDoor
namespace Go.Proofs.YtjgliinpaadbnaaGreatDoor
open Go.ChangeShapes Go.WideShapes Go.ChangeAt Go.RowKit
namespace Bw
open Sm
def nmB (nm : ByteArray) (r : Rd) : Bool := decide (r.nm = nm)
theorem enter_nm : ∀ args w, (callFunc 41 args).run Tryz.prog w = .ok (.enter 41 args) w := enters_of Tryz.func41 (by kernel_rfl) rfl
set_option maxHeartbeats 4000000 in
theorem byNm_any (r : Rd) (nm : ByteArray) (g : Nat) (w : World) (hg : w.cell? ⟨g, 0, none⟩ = some (.string nm)) :
    Calls Tryz.prog 41 #[.agg #[.string r.nm, .int .i64 r.num, .int .i64 r.den], .pointer (some ⟨g, 0, none⟩)] w fun e w' => e = .returned (.bool (nmB nm r)) ∧ Below w.heap.size w w' := by
  obtain ⟨rn, rnum, rden⟩ := r
  have HAL := Hid.mk (awB1 w (.cells #[.string rn, .int .i64 rnum, .int .i64 rden] 44))
  have hg1 := cell_kept HAL.out hg
  simp only
  clear hg
  by_cases hnm : rn = nm
  · have e0 := str_yes hnm
    have HV : Hid (nmB nm ⟨rn, rnum, rden⟩ = true) := Hid.mk (by unfold nmB; simpa using hnm)
    clear hnm
    go_enter Tryz.func41, Tryz.ntmps41
    go_wp2_with fail
    go_ret
    exact ⟨by rw [HV.out]; rfl, HAL.out⟩
  · have e0 := str_no hnm
    have HV : Hid (nmB nm ⟨rn, rnum, rden⟩ = false) := Hid.mk (by unfold nmB; simpa using hnm)
    clear hnm
    go_enter Tryz.func41, Tryz.ntmps41
    go_wp2_with fail
    go_ret
    exact ⟨by rw [HV.out]; rfl, HAL.out⟩
set_option maxHeartbeats 4000000 in
set_option maxRecDepth 100000 in
theorem indexFuncRd (g : Nat) (lb : Array Value) (eg : ∀ args w, (callFunc g args).run Tryz.prog w = .ok (.enter g args) w) (p : Rd → Bool) (a : Option Addr) (n c : Nat) (l : List Rd) (w : World) (hF : IsRds w a n c l)
    (hp : ∀ W (x : Rd), Below w.heap.size w W → Calls Tryz.prog g (#[.agg #[.string x.nm, .int .i64 x.num, .int .i64 x.den]] ++ lb) W fun e w' => e = .returned (.bool (p x)) ∧ Below W.heap.size W w') :
    Calls Tryz.prog 40 #[.slice a n c, .func (.func g) #[] lb] w fun e w' => e = .returned (.int .i64 (idxK (fun i => p (l.getD i noR)) n)) ∧ Below w.heap.size w w' := by
  have HF := Hid.mk hF
  have HP := Hid.mk hp
  have hn63 : n ≤ 9223372036854775807 := by have h1 := hF.le; have h2 := hF.max; unfold maxLen at h2; omega
  clear hF hp
  go_enter Tryz.func40, Tryz.ntmps40
  go_wp2_with fail
  go_loopw [8] (fun i wr => ∃ k : Nat, k ≤ n ∧ i = .int .i64 k ∧ Hid (∀ j, j < k → p (l.getD j noR) = false) ∧ Hid (Below w.heap.size w wr)) (fun i _ => n - (intOf i).toNat)
  case atStart => exact ⟨0, Nat.zero_le _, rfl, Hid.mk (fun j hj => absurd hj (Nat.not_lt_zero _)), Hid.mk (Below.refl _ _)⟩
  case round =>
    obtain ⟨k, hk, rfl, HA, HB⟩ := hrel
    by_cases hlt : k < n
    · have hlt' : (k : Int) < (n : Int) := by omega
      obtain ⟨x, hx⟩ := HF.out.some hlt
      subst hx
      have hAt := (HF.out.kept HB.out).at hlt
      have hcall := HP.out wr (l.getD k noR) HB.out
      have HY : Hid (∃ y, y = l.getD k noR) := Hid.mk ⟨_, rfl⟩
      obtain ⟨y, hy⟩ := HY.out
      rw [← hy] at hAt hcall
      have HYY := Hid.mk hy
      clear hy HY
      cases hq : p y with
      | true =>
        rw [hq] at hcall
        have HQ := Hid.mk hq
        clear hq
        obtain ⟨rn, rnum, rden⟩ := y
        obtain ⟨c0, c1, c2⟩ := hAt
        simp only at hcall c0 c1 c2
        have HC := Hid.mk hcall
        clear hcall
        go_wp2_with (go_at_fn g; refine HC.out.mono ?_; rintro e w1 ⟨rfl, hb1⟩)
        have HB1 := Hid.mk (bl2 HB.out hb1)
        clear hb1
        go_ret
        exact ⟨by rw [idxK_hit HA.out (by show p (l.getD k noR) = true; rw [← HYY.out]; exact HQ.out) hlt]; rfl, HB1.out⟩
      | false =>
        rw [hq] at hcall
        have HQ := Hid.mk hq
        clear hq
        obtain ⟨rn, rnum, rden⟩ := y
        obtain ⟨c0, c1, c2⟩ := hAt
        simp only at hcall c0 c1 c2
        have HC := Hid.mk hcall
        clear hcall
        go_wp2_with (go_at_fn g; refine HC.out.mono ?_; rintro e w1 ⟨rfl, hb1⟩)
        have HB1 := Hid.mk (bl2 HB.out hb1)
        clear hb1
        go_roundw
        case rel =>
          refine ⟨k + 1, by omega, by go_num, Hid.mk fun j hj => ?_, HB1⟩
          by_cases e : j = k
          · subst e; rw [← HYY.out]; exact HQ.out
          · exact HA.out j (by omega)
        case measure => simp [intOf]; omega
    · have e : k = n := by omega
      subst e
      go_wp2_with fail
      go_ret
      exact ⟨by rw [idxK_none HA.out]; rfl, HB.out⟩
/-- which reading has the name: its number, or -1 -/
theorem idx_find (l : List Rd) (nm : ByteArray) : (findR l nm = none ∧ idxK (fun i => nmB nm (l.getD i noR)) l.length = -1) ∨ ∃ k, k < l.length ∧ idxK (fun i => nmB nm (l.getD i noR)) l.length = (k : Int) ∧ findR l nm = some (rdAt l k) := by
  rcases idx_first (fun i => nmB nm (l.getD i noR)) l.length with h | ⟨k, hk, h1, h2⟩
  · left
    refine ⟨?_, idxK_none h⟩
    unfold findR
    rw [List.find?_eq_none]
    intro r hr
    obtain ⟨i, hi, rfl⟩ := List.getElem_of_mem hr
    have := h i hi
    rw [getD_at hi] at this
    unfold nmB at this
    simpa using this
  · right
    refine ⟨k, hk, idxK_hit h2 h1 hk, ?_⟩
    unfold findR rdAt
    rw [List.find?_eq_some_iff_getElem]
    have e : l.getD k nR = l[k] := getD_at hk _
    rw [getD_at hk] at h1
    unfold nmB at h1
    refine ⟨by rw [e]; exact h1, k, hk, e.symm, fun j hj => ?_⟩
    have h3 := h2 j hj
    have hj' : j < l.length := by omega
    rw [getD_at hj'] at h3
    unfold nmB at h3
    simpa using h3
end Bw
end Go.Proofs.YtjgliinpaadbnaaGreatDoor
namespace Go.Proofs.YtjgliinpaadbnaaGreatDoor
open Go.ChangeShapes Go.WideShapes Go.ChangeAt Go.RowKit
namespace Bw
open Sm
theorem info_sg : (Tryz.prog.info? 42).map (fun i => (i.zero, i.size, i.bytes)) = some (some (.agg #[.string ⟨#[]⟩, .int .i64 0, .int .i64 0, .bool false, .bool false, .int .i64 0, .int .i64 0, .int .i64 0, .int .i64 0]), 9, 72) := by kernel_rfl
/-- signals as cells -/
def sgsC (l : List Sig) : List Value := l.flatMap sgCl
theorem sgsC_cons (x : Sig) (l : List Sig) : sgsC (x :: l) = sgCl x ++ sgsC l := by simp [sgsC]
theorem sgsC_append (a b : List Sig) : sgsC (a ++ b) = sgsC a ++ sgsC b := by simp [sgsC]
theorem sgsC_len : ∀ l : List Sig, (sgsC l).length = l.length * 9
  | [] => rfl
  | x :: l => by rw [sgsC_cons, List.length_append, sgsC_len l]; simp [sgCl]; omega
theorem sgsC_at : ∀ (l : List Sig) (i : Nat) (hi : i < l.length) (k : Nat), k < 9 → (sgsC l)[i * 9 + k]? = (sgCl l[i])[k]?
  | [], i, hi, _, _ => absurd hi (Nat.not_lt_zero _)
  | x :: l, 0, _, k, hk => by
    rw [sgsC_cons, List.getElem?_append_left (by simp [sgCl]; omega)]
    simp
  | x :: l, i + 1, hi, k, hk => by
    have := sgsC_at l i (by simpa using hi) k hk
    rw [sgsC_cons, List.getElem?_append_right (by simp [sgCl]; omega)]
    rw [show (i + 1) * 9 + k - (sgCl x).length = i * 9 + k by simp [sgCl]; omega, this]
    simp
theorem sgsC_one (l : List Sig) : ∀ u ∈ sgsC l, u.oneCell' = true := by
  intro u hu
  unfold sgsC at hu
  rw [List.mem_flatMap] at hu
  obtain ⟨x, _, hx⟩ := hu
  unfold sgCl at hx
  simp only [List.mem_cons, List.not_mem_nil, or_false] at hx
  rcases hx with rfl | rfl | rfl | rfl | rfl | rfl | rfl | rfl | rfl <;> rfl
theorem sgs_news {w : World} {y : Addr} {n cap : Nat} {l : List Sig} (h : IsSigs w (some y) n cap l) : ∀ j u, (sgsC l)[j]? = some u → w.cell? (y.add j) = some u := by
  intro j u hj
  have hlt : j < (sgsC l).length := by
    rcases Nat.lt_or_ge j (sgsC l).length with h1 | h1
    · exact h1
    · rw [List.getElem?_eq_none h1] at hj
      cases hj
  rw [sgsC_len] at hlt
  have h9 : j / 9 < l.length := by omega
  have e : j = j / 9 * 9 + j % 9 := by omega
  have h1 := h.cell y rfl (j / 9) h9 (j % 9) (by omega)
  have h2 := sgsC_at l (j / 9) h9 (j % 9) (by omega)
  rw [← e] at h1 h2
  rw [h1, ← h2, hj]
/-- a row of signals of one's own is a row -/
theorem sgs_own {w : World} {base : Nat} {u : Value} {n : Nat} {l : List Sig} (h : w.ownsRow base 42 9 u n (sgsC l)) (hn : l.length = n) : ∃ a c, u = .slice a n c ∧ IsSigs w a n c l := by
  subst hn
  have h0 := h
  obtain ⟨hl, h2⟩ := h
  rcases h2 with ⟨h3, h4⟩ | ⟨g', cap, cur, hv, hg, hh, hc, hm, hsz, htk⟩
  · refine ⟨none, 0, ?_, ?_⟩
    · rw [h3, h4]
    · exact ⟨rfl, by omega, Nat.zero_le _, fun _ => h4, fun _ e => by cases e⟩
  · refine ⟨some ⟨g', 0, none⟩, cap, hv, rfl, hc, hm, (fun e => by cases e), fun x hx i hi k hk => ?_⟩
    cases hx
    have h5 : i * 9 + k < (sgsC l).length := by rw [sgsC_len]; omega
    have h6 := sgsC_at l i hi k hk
    rw [← h6, List.getElem?_eq_getElem h5]
    subst hv
    exact h0.cells rfl _ _ (List.getElem?_eq_getElem h5)
theorem elem_sg : Tryz.prog.elem 22 = 42 := by kernel_rfl
theorem size_sg (W : World) : (sizeOf 42).run Tryz.prog W = .ok 9 W := by simp [go_sem]
theorem und_sg : Tryz.prog.underlying 22 = some (.slice (Tryz.prog.elem 22)) := by rw [elem_sg]; exact Tryz.underlying22
theorem slice_hS (x : Addr) (n c k : Nat) (hk : k ≤ c) (W : World) : (Instr.slice 22 (.slice (some x) n c) none (some (.int .i64 (k : Int))) none).run Tryz.prog W = .ok (.slice (some x) k c) W := by
  rw [run_slice_h (ht := und_sg) (h0 := by omega) (h2 := by omega), elem_sg, size_sg]
  simp [Result.andThen, sliced]
  intro _
  simp [Addr.add]
theorem slice_lS (x : Addr) (n c k : Nat) (hk : k < n) (W : World) : (Instr.slice 22 (.slice (some x) n c) (some (.int .i64 ((k : Int) + 1))) none none).run Tryz.prog W = .ok (.slice (some (if c = k + 1 then x else x.add ((k + 1) * 9))) (n - (k + 1)) (c - (k + 1))) W := by
  rw [run_slice_l (ht := und_sg) (h0 := by omega) (h1 := by omega), elem_sg, size_sg]
  have e : ((k : Int) + 1).toNat = k + 1 := by omega
  simp only [Result.andThen, sliced, e]
  split <;> rfl
theorem sigs_drop {w : World} {x : Addr} {n c : Nat} {l : List Sig} (h : IsSigs w (some x) n c l) {k : Nat} (hk : k ≤ n) : IsSigs w (some (if c = k then x else x.add (k * 9))) (n - k) (c - k) (l.drop k) := by
  have hl := h.len
  have hle := h.le
  have hm := h.max
  refine ⟨by rw [List.length_drop]; omega, by omega, by omega, (fun h => by cases h), fun y hy i hi q hq => ?_⟩
  rw [List.length_drop] at hi
  rw [if_neg (by omega)] at hy
  cases hy
  have ea : ∀ j, (x.add (k * 9)).add j = x.add (k * 9 + j) := fun j => by
    first | exact Addr.add_add _ _ _ | (unfold Addr.add; simp; omega)
  have h1 := h.cell x rfl (k + i) (by omega) q hq
  rw [ea, show k * 9 + (i * 9 + q) = (k + i) * 9 + q by omega, h1, List.getElem_drop]
set_option maxHeartbeats 4000000 in
set_option maxRecDepth 100000 in
theorem growS_zero (w : World) :
    Calls Tryz.prog 88 #[.slice none 0 0, .int .i64 0] w fun e w' => e = .returned (.slice none 0 0) ∧ w' = w := by
  go_enter Tryz.func88, Tryz.ntmps88
  go_wp2_with fail
  go_ret
  exact ⟨rfl, rfl⟩
set_option maxHeartbeats 4000000 in
set_option maxRecDepth 100000 in
theorem growS_pos (n : Nat) (w : World) (h0 : 0 < n) (h48 : n ≤ 1000) :
    Calls Tryz.prog 88 #[.slice none 0 0, .int .i64 n] w fun e w' => ∃ C cur, e = .returned (.slice (some ⟨w.heap.size, 0, none⟩) 0 C) ∧
      w'.heap[w.heap.size]? = some (.cells cur 42 (0, 0)) ∧ cur.size = C * 9 ∧ n ≤ C ∧ C ≤ maxLen ∧ Below w.heap.size w w' := by
  obtain ⟨i0, hi, hz0, hz1, hz2⟩ := info_parts info_sg
  have happ := Lib.run_append_nil_zeros (P := Tryz.prog) w 22 3 22 42 i0 _ .i64 .i64 Tryz.underlying22 Tryz.underlying3 hi hz0 n h0 (by omega) (by omega) (by rw [hz2]; omega)
  have hge := grownCap_ge w n 0 42
  have hle := grownCap_le_maxLen w n 0 42 (by unfold maxLen; omega)
  generalize grownCap w n 0 42 = C at *
  obtain ⟨Z, hZ⟩ : ∃ Z, Z = (Builtin.zeroCells (Value.agg #[.string ⟨#[]⟩, .int .i64 0, .int .i64 0, .bool false, .bool false, .int .i64 0, .int .i64 0, .int .i64 0, .int .i64 0]).cells n ++ Builtin.zeroCells (Value.agg #[.string ⟨#[]⟩, .int .i64 0, .int .i64 0, .bool false, .bool false, .int .i64 0, .int .i64 0, .int .i64 0, .int .i64 0]).cells (C - n)) := ⟨_, rfl⟩
  rw [← hZ] at happ
  have hZs : Z.size = C * 9 := by rw [hZ]; simp [size_zeroCells, Value.cells]; omega
  have hs0 : ∀ W, (Instr.slice 22 (.slice (some ⟨w.heap.size, 0, none⟩) n C) none (some (.int .i64 0)) none).run Tryz.prog W = .ok (.slice (some ⟨w.heap.size, 0, none⟩) 0 C) W := fun W => slice_hS ⟨w.heap.size, 0, none⟩ n C 0 (Nat.zero_le _) W
  have HH := Hid.mk (heap_alloc_new w.drew (.cells Z 42))
  have HB : Hid (Below w.heap.size w (w.drew.alloc (.cells Z 42))) := Hid.mk ((show Below w.heap.size w w.drew from ⟨rfl, rfl, rfl, Nat.le_refl _, fun _ _ => rfl⟩).alloc (Nat.le_refl _) _)
  have hn' : (0 : Int) < (n : Int) := by omega
  have hn2 : (n : Int) ≤ 281474976710656 := by omega
  have HAP := Hid.mk happ
  clear happ hZ
  go_enter Tryz.func88, Tryz.ntmps88
  go_wp2_with (at_builtin; refine Lib.wpList_append_run _ rfl _ _ _ _ rfl _ _ rfl rfl _ _ HAP.out ?_)
  go_ret
  exact ⟨C, Z, rfl, HH.out, hZs, hge, hle, HB.out⟩
theorem growS_any (n : Nat) (w : World) (h48 : n ≤ 1000) :
    Calls Tryz.prog 88 #[.slice none 0 0, .int .i64 n] w fun e w' => ∃ u, e = .returned u ∧ Hid (w'.ownsRow w.heap.size 42 9 u 0 (sgsC [])) ∧ Below w.heap.size w w' := by
  rcases Nat.eq_zero_or_pos n with h | h
  · subst h
    refine (growS_zero w).mono ?_
    rintro e w' ⟨rfl, rfl⟩
    exact ⟨_, rfl, Hid.mk ⟨rfl, .inl ⟨rfl, rfl⟩⟩, Below.refl _ _⟩
  · refine (growS_pos n w h h48).mono ?_
    rintro e w' ⟨C, cur, rfl, hh, hcs, hnC, hC, hb⟩
    exact ⟨_, rfl, Hid.mk ⟨rfl, .inr ⟨_, C, cur, rfl, Nat.le_refl _, hh, Nat.zero_le _, hC, hcs, by simp [sgsC]⟩⟩, hb⟩
structure TwoSg (w : World) (g : Nat) (x : Addr) (na ca : Nat) (y : Addr) (nb cb : Nat) : Prop where
  c0 : w.cell? ⟨g, 0, none⟩ = some (.slice (some x) na ca)
  c1 : w.cell? ⟨g, 1, none⟩ = some (.slice (some y) nb cb)
theorem TwoSg.kept {w w' : World} {g : Nat} {x : Addr} {na ca : Nat} {y : Addr} {nb cb : Nat} (h : TwoSg w g x na ca y nb cb) (hb : Below w.heap.size w w') : TwoSg w' g x na ca y nb cb := ⟨cell_kept hb h.c0, cell_kept hb h.c1⟩
theorem own_below {w0 w w' : World} {base : Nat} {e : TypeId} {size : Nat} {v : Value} {n : Nat} {xs : List Value} (h : Below w0.heap.size w0 w) (ho : w.ownsRow w0.heap.size e size v n xs) (hg : w.grownBy w' v.ownBlock) (_ : base = w0.heap.size) : Below w0.heap.size w0 w' :=
  Below.grown h hg h.size (fun q hq => by
    rcases ho.2 with ⟨h1, _⟩ | ⟨g, cap, cur, hv, hb, _⟩
    · subst h1; cases hq
    · subst hv
      have e : g = q := by simpa [Value.ownBlock] using hq
      omega)
set_option maxHeartbeats 8000000 in
set_option maxRecDepth 100000 in
theorem concatS_any (g : Nat) (x : Addr) (na ca : Nat) (la : List Sig) (y : Addr) (nb cb : Nat) (lb : List Sig) (w : World) (hT : TwoSg w g x na ca y nb cb) (hF : IsSigs w (some x) na ca la) (hFb : IsSigs w (some y) nb cb lb) (h48 : na + nb ≤ 1000) :
    Calls Tryz.prog 39 #[.slice (some ⟨g, 0, none⟩) 2 2] w fun e w' => ∃ u, e = .returned u ∧ Hid (w'.ownsRow w.heap.size 42 9 u (na + nb) (sgsC (la ++ lb))) ∧ Below w.heap.size w w' := by
  obtain ⟨i0, hi, hz0, hz1, hz2⟩ := info_parts info_sg
  have HG := Hid.mk (growS_any (na + nb) w h48)
  rw [show (((na + nb : Nat)) : Int) = (na : Int) + (nb : Int) by omega] at HG
  have HT := Hid.mk hT
  have HF := Hid.mk hF
  have HFb := Hid.mk hFb
  have HL : Hid (la.length = na ∧ lb.length = nb) := Hid.mk ⟨hF.len, hFb.len⟩
  have hna : (na : Int) ≤ 1000 := by omega
  have hnb : (nb : Int) ≤ 1000 := by omega
  have HI := Hid.mk hi
  have HZ0 := Hid.mk hz0
  have HZ1 := Hid.mk hz1
  have HZ2 := Hid.mk hz2
  clear hT hF hFb hi hz0 hz1 hz2
  go_enter Tryz.func39, Tryz.ntmps39
  go_wp2_with fail
  go_loopw [3, 11] (fun s i wr => wr = w ∧ ((i = .int .i64 0 ∧ s = .int .i64 0) ∨ (i = .int .i64 1 ∧ s = .int .i64 (na : Int)) ∨ (i = .int .i64 2 ∧ s = .int .i64 ((na : Int) + (nb : Int))))) (fun _ i _ => 2 - (intOf i).toNat)
  case atStart => exact ⟨rfl, .inl ⟨rfl, rfl⟩⟩
  case round =>
    obtain ⟨hwr, ⟨rfl, rfl⟩ | ⟨rfl, rfl⟩ | ⟨rfl, rfl⟩⟩ := hrel
    · subst hwr
      obtain ⟨t0, t1⟩ := HT.out
      go_wp2_with fail
      go_roundw
      case rel => exact ⟨trivial, .inr (.inl ⟨rfl, by simp⟩)⟩
      case measure => simp [intOf]
    · subst hwr
      obtain ⟨t0, t1⟩ := HT.out
      go_wp2_with fail
      go_roundw
      case rel => exact ⟨trivial, .inr (.inr ⟨rfl, rfl⟩)⟩
      case measure => simp [intOf]
    · subst hwr
      go_wp2_with fail
      refine HG.out.mono ?_
      rintro e w1 ⟨u1, rfl, HR1, hb1⟩
      have HB1 := Hid.mk hb1
      clear hb1
      go_wp2_with fail
      obtain ⟨wz, hwz⟩ : ∃ wz, wz = wr := ⟨_, rfl⟩
      rw [← hwz] at HF HFb HT HR1 HB1
      have HWZ := Hid.mk hwz
      clear hwz HG
      go_loopw [6, 27] (fun v i wr => Hid (Below wz.heap.size wz wr) ∧ ((i = .int .i64 0 ∧ Hid (wr.ownsRow wz.heap.size 42 9 v 0 (sgsC []))) ∨ (i = .int .i64 1 ∧ Hid (wr.ownsRow wz.heap.size 42 9 v na (sgsC la))) ∨ (i = .int .i64 2 ∧ Hid (wr.ownsRow wz.heap.size 42 9 v (na + nb) (sgsC (la ++ lb)))))) (fun _ i _ => 2 - (intOf i).toNat)
      case atStart => exact ⟨HB1, .inl ⟨rfl, HR1⟩⟩
      case round =>
        rename_i v0 i0' _
        obtain ⟨HB, ⟨rfl, HR⟩ | ⟨rfl, HR⟩ | ⟨rfl, HR⟩⟩ := hrel
        · obtain ⟨t0, t1⟩ := HT.out.kept HB.out
          have HSZ := Hid.mk HB.out.size
          obtain ⟨v', w', hr5, ho5, hg5, -⟩ := run_append_own (P := Tryz.prog) _ wz.heap.size 22 22 42 i0 _ 9 72 Tryz.underlying22 HI.out HZ0.out HZ1.out HZ2.out rfl (by decide) _ _ _ HR.out x na ca (sgsC la) (by rw [sgsC_len, HL.out.1]) (sgs_news (HF.out.kept HB.out)) (sgsC_one la) (by unfold maxLen; omega) (by omega) HSZ.out
          rw [show sgsC [] ++ sgsC la = sgsC la by simp [sgsC], Nat.zero_add] at ho5
          have HAP := Hid.mk hr5
          have HR5 := Hid.mk ho5
          have HB5 := Hid.mk (own_below HB.out HR.out hg5 rfl)
          clear hr5 ho5 hg5
          go_wp2_with (at_builtin; refine Lib.wpList_append_run _ rfl _ _ _ _ rfl _ _ rfl rfl _ _ HAP.out ?_)
          go_roundw
          case rel => exact ⟨HB5, .inr (.inl ⟨rfl, HR5⟩)⟩
          case measure => simp [intOf]
        · obtain ⟨t0, t1⟩ := HT.out.kept HB.out
          have HSZ := Hid.mk HB.out.size
          obtain ⟨v', w', hr5, ho5, hg5, -⟩ := run_append_own (P := Tryz.prog) _ wz.heap.size 22 22 42 i0 _ 9 72 Tryz.underlying22 HI.out HZ0.out HZ1.out HZ2.out rfl (by decide) _ _ _ HR.out y nb cb (sgsC lb) (by rw [sgsC_len, HL.out.2]) (sgs_news (HFb.out.kept HB.out)) (sgsC_one lb) (by unfold maxLen; omega) (by omega) HSZ.out
          rw [← sgsC_append] at ho5
          have HAP := Hid.mk hr5
          have HR5 := Hid.mk ho5
          have HB5 := Hid.mk (own_below HB.out HR.out hg5 rfl)
          clear hr5 ho5 hg5
          go_wp2_with (at_builtin; refine Lib.wpList_append_run _ rfl _ _ _ _ rfl _ _ rfl rfl _ _ HAP.out ?_)
          go_roundw
          case rel => exact ⟨HB5, .inr (.inr ⟨rfl, HR5⟩)⟩
          case measure => simp [intOf]
        · go_wp2_with fail
          go_ret
          exact ⟨_, rfl, by rw [← HWZ.out]; exact HR, by rw [← HWZ.out]; exact HB.out⟩
end Bw
end Go.Proofs.YtjgliinpaadbnaaGreatDoor
namespace Go.Proofs.YtjgliinpaadbnaaGreatDoor
open Go.ChangeShapes Go.WideShapes Go.ChangeAt Go.RowKit Go.Sort
namespace Bw
open Sm
theorem step_append_run {P : Program} (w : World) {ops : Array Oper} {o : Oper} {a : Act} {K : Act → World → Prop} {Q : Exit → Act → World → Prop} {E : Prop} (hgd : o.guard = none) (s x : Operand) (t tn : TypeId)
    (ho : o.op = .call { callee := .builtin .append, args := #[s, x], argTypes := #[t, tn] }) (vs vx : Value) (hs : a.eval s = vs) (hx : a.eval x = vx)
    (v' : Value) (w' : World) (hr : (Builtin.append_ #[t, tn] o.type #[vs, vx]).run P w = .ok v' w') (h : K (a.put o.dst v') w') :
    if Region.wanted o (yielded ops a.tmps) = true then Oper.wp P o a w K Q else E := by
  have hw : Region.wanted o (yielded ops a.tmps) = true := by simp [Region.wanted, hgd]
  rw [if_pos hw]
  exact Lib.wp_append_run w s x t tn ho vs vx hs hx v' w' hr h
/-- one signal, and others behind it -/
theorem app_order (s : Sig) (lb : List Sig) (m N gL base : Nat) (u : Value) (W : World) (hlit : W.heap[gL]? = some (sgC s)) (hu : W.ownsRow base 42 9 u m (sgsC lb)) (hlb : lb.length = m) (hN : 1 + m = N) (hm : m ≤ 1000) :
    ∃ oa oc w', (Builtin.append_ #[22, 22] 22 #[.slice (some ⟨gL, 0, none⟩) 1 1, u]).run Tryz.prog W = .ok (.slice oa N oc) w' ∧ IsSigs w' oa N oc (s :: lb) ∧ W.grownBy w' (some gL) := by
  obtain ⟨i0, hi, hz0, hz1, hz2⟩ := info_parts info_sg
  have hown : W.ownsRow 0 42 9 (.slice (some ⟨gL, 0, none⟩) 1 1) 1 (sgsC [s]) :=
    ⟨by rw [sgsC_len]; rfl, .inr ⟨gL, 1, _, rfl, Nat.zero_le _, hlit, Nat.le_refl _, by unfold maxLen; omega, rfl, by simp [sgsC, sgCl]⟩⟩
  rcases hu.2 with ⟨rfl, h0⟩ | ⟨g', cap, cur, rfl, hb', hh, hc, hmx, hsz, htk⟩
  · subst h0
    have hl0 : lb = [] := by simpa using hlb
    subst hl0
    obtain ⟨a', c', e1, h1⟩ := sgs_own hown rfl
    subst hN
    refine ⟨a', c', W, ?_, h1, ⟨rfl, rfl, rfl, Nat.le_refl _, fun _ _ _ => rfl⟩⟩
    rw [← e1]
    exact run_append_owned_none (P := Tryz.prog) (w := W) 0 22 _ 42 i0 9 Tryz.underlying22 hi _ _ _ hown
  · obtain ⟨v', w', hr, ho, hg, -⟩ := run_append_own (P := Tryz.prog) W 0 22 22 42 i0 _ 9 72 Tryz.underlying22 hi hz0 hz1 hz2 rfl (by decide) _ _ _ hown ⟨g', 0, none⟩ m cap (sgsC lb) (by rw [sgsC_len, hlb]) (fun j q hj => hu.cells rfl j q hj) (sgsC_one lb) (by unfold maxLen; omega) (by omega) (Nat.zero_le _)
    rw [← sgsC_append, hN] at ho
    obtain ⟨a', c', rfl, h1⟩ := sgs_own ho (by simp; omega)
    exact ⟨a', c', w', hr, h1, hg⟩
theorem wt_res (tmps : Array Value) (w : World) (g : Nat) (c0 c1 c2 c3 c4 c5 y : Value) (hp : tmps.getD 4 undef = .pointer (some ⟨g, 0, none⟩)) (hy : tmps.getD 5 undef = y) (h : Six w g c0 c1 c2 c3 c4 c5) :
    (results Tryz.f11 tmps).run Tryz.prog w = .ok (.tuple #[.agg #[c0, c1, c2, c3, c4, c5], y]) w := by
  have hl := run_loadVar_row (P := Tryz.prog) w g 28 28 #[c0, c1, c2, c3, c4, c5] (0, 0) _ h Tryz.underlying28 rfl (by rw [fr_i]; rfl)
  have hp' : tmps[4]?.getD undef = .pointer (some ⟨g, 0, none⟩) := by simpa using hp
  have hy' : tmps[5]?.getD undef = y := by simpa using hy
  simp [results, hp', hy', asAddr, hl]
def wtW (w : World) (v : MsV) (n : Nat) : World := ((w.alloc (msC v)).alloc (.cells #[.int .i64 0, .bool false, .bool false, .bool false, .int .i64 0, .slice none 0 0] 28)).alloc (.cells (madeCells #[.int .u8 0] n) 5)
theorem wt_B (w : World) (v : MsV) (n : Nat) : Below w.heap.size w (wtW w v n) := (six_B0 w v).alloc (by simp; omega) _
theorem wt_M (w : World) (v : MsV) (n : Nat) : MsAt (wtW w v n) w.heap.size v := (six_M0 w v).kept (awB1 _ _)
theorem wt_S (w : World) (v : MsV) (n : Nat) : Six (wtW w v n) (w.heap.size + 1) (.int .i64 0) (.bool false) (.bool false) (.bool false) (.int .i64 0) (.slice none 0 0) := (six_S0 w v).kept (awB1 _ _)
theorem wt_Z (w : World) (v : MsV) (n : Nat) (hn : n ≤ 8) : IsBytes (wtW w v n) (some ⟨w.heap.size + 1 + 1, 0, none⟩) n n (List.replicate n 0) := by
  have := zeros_at ((w.alloc (msC v)).alloc (.cells #[.int .i64 0, .bool false, .bool false, .bool false, .int .i64 0, .slice none 0 0] 28)) n (by omega)
  rw [show ((w.alloc (msC v)).alloc (.cells #[.int .i64 0, .bool false, .bool false, .bool false, .int .i64 0, .slice none 0 0] 28)).heap.size = w.heap.size + 1 + 1 by simp] at this
  exact this
theorem elem_rdW : Tryz.prog.elem 25 = 44 := by kernel_rfl
theorem size_rdW (W : World) : (sizeOf 44).run Tryz.prog W = .ok 3 W := by simp [go_sem]
theorem und_rdW : Tryz.prog.underlying 25 = some (.slice (Tryz.prog.elem 25)) := by rw [elem_rdW]; exact Tryz.underlying25
theorem slice_hR (x : Addr) (n c k : Nat) (hk : k ≤ c) (W : World) : (Instr.slice 25 (.slice (some x) n c) none (some (.int .i64 (k : Int))) none).run Tryz.prog W = .ok (.slice (some x) k c) W := by
  rw [run_slice_h (ht := und_rdW) (h0 := by omega) (h2 := by omega), elem_rdW, size_rdW]
  simp [Result.andThen, sliced]
  intro _
  simp [Addr.add]
theorem bD (w : World) : Below w.heap.size w w.drew := ⟨rfl, rfl, rfl, Nat.le_refl _, fun _ _ => rfl⟩
theorem bA1 (w : World) (o : Obj) : Below w.heap.size w (w.alloc o).drew := bl2 (awB1 w o) (bD _)
theorem bA2 (w : World) (o p : Obj) : Below w.heap.size w ((w.alloc o).alloc p).drew := bl2 (awB1 w o) (bl2 (awB1 _ p) (bD _))
theorem ord_mem {m : Msg} (hO : OkM m) {s : Sig} (h : s ∈ ordL m) : s ∈ m.sigs := by
  unfold ordL at h
  split at h
  · rename_i hc
    have h1 := hO.ch1
    rw [List.mem_cons, List.mem_append] at h
    rcases h with rfl | h | h
    · exact m.mem (by omega)
    · exact List.mem_of_mem_take h
    · exact List.mem_of_mem_drop h
  · exact h
theorem ord_len {m : Msg} (hO : OkM m) : (ordL m).length = m.sigs.length := by
  unfold ordL
  split
  · rename_i hc
    have h1 := hO.ch1
    rw [List.length_cons, List.length_append, List.length_take, List.length_drop]
    omega
  · rfl
end Bw
end Go.Proofs.YtjgliinpaadbnaaGreatDoor
namespace Go.Proofs.YtjgliinpaadbnaaGreatDoor
open Go.ChangeShapes Go.WideShapes Go.ChangeAt Go.RowKit Go.Sort
namespace Bw
open Sm
set_option maxHeartbeats 64000000 in
set_option maxRecDepth 100000 in
theorem written_any (v : MsV) (a : Option Addr) (n c : Nat) (l : List Rd) (n8 : Nat) (w : World) (hM : MsIn w v) (hF : IsRds w a n c l) (hE : chkM v.m = 0) (hn8 : v.m.size = n8) :
    Calls Tryz.prog 11 #[msV v, .slice a n c] w (WriteP (writeE v.m l) v.m.id v.m.lo n8 (fillE (putW l) v.m).2 w) := by
  have hO := chkM_ok hE
  have hlen : v.m.sigs.length = v.n := hM.row.len
  have hn16 : v.n ≤ 16 := by have := hO.many; omega
  have hn88 : n8 ≤ 8 := by have := hO.size8; omega
  have HEQ := Hid.mk (writeE_lw hO hE hn8 l)
  have HDAT : Hid ((lwR v.m l).1 = 0 → (lwR v.m l).2.1 = (fillE (putW l) v.m).2) := Hid.mk (fun h => ((lw_all hO hn8 l).2 h).1)
  have HLR : Hid (lwE v.m l (ordL v.m) (List.replicate n8 0) 0 = lwR v.m l) := Hid.mk (by unfold lwR zerosM; rw [hn8]; rfl)
  have HSIG := Hid.mk (fun s (hs : s ∈ v.m.sigs) => show chkS s n8 = 0 from by
    obtain ⟨i, hi, rfl⟩ := List.getElem_of_mem hs
    have h1 := hO.sig hi
    unfold Msg.at at h1
    rw [getD_at hi, hn8] at h1
    exact h1)
  have HITH := Hid.mk (fun s a c d W (hs : s ∈ v.m.sigs) (hI : MsIn W v) (hB : IsBytes W a n8 c d) => show Calls Tryz.prog 19 #[msV v, sgV s, .slice a n8 c] W fun e w' => e = .returned (.bool (thB (choD v.m d) s)) ∧ Below W.heap.size W w' from by
    obtain ⟨i, hi, rfl⟩ := List.getElem_of_mem hs
    have h1 := isThereD_any v i a n8 c d W hI hB hO hi hn8 (Nat.le_refl _) (by omega)
    unfold Msg.at at h1
    rw [getD_at hi] at h1
    exact h1)
  have HUM := Hid.mk (fun s num den W (hs : s ∈ v.m.sigs) => unmeanD_any s (n := n8) num den W (HSIG.out s hs))
  have HSR := Hid.mk (fun s a c d num den W (hs : s ∈ v.m.sigs) (h : IsBytes W a n8 c d) => setD_any s a n8 c d num den W h (HSIG.out s hs))
  have HOM := Hid.mk (fun s (hs : s ∈ ordL v.m) => ord_mem hO hs)
  have HOL : Hid ((ordL v.m).length = v.n) := Hid.mk (by rw [ord_len hO, hlen])
  have HON : Hid (v.m.ch < 0 → ordL v.m = v.m.sigs) := Hid.mk (fun h => by unfold ordL; rw [if_neg (by omega)])
  have HOS : Hid (∀ k0 : Nat, v.m.ch = k0 → ordL v.m = v.m.sigs.getD k0 noS :: (v.m.sigs.take k0 ++ v.m.sigs.drop (k0 + 1))) := Hid.mk (fun k0 h => by
    unfold ordL Msg.at
    rw [if_pos (by omega), h]
    rfl)
  have HL0 : Hid (∀ d u, lwE v.m l [] d u = (0, d, u)) := Hid.mk (fun _ _ => rfl)
  have HLC : Hid (∀ s r d u, lwE v.m l (s :: r) d u = if thB (choD v.m d) s = true then (if (putW l s d).1 = 0 then lwE v.m l r (putW l s d).2 (u + 1) else ((putW l s d).1, [], 0)) else lwE v.m l r d u) := Hid.mk (fun _ _ _ _ => rfl)
  have HP0 : Hid (∀ s d, findR l s.nm = none → putW l s d = (14, [])) := Hid.mk (fun s d h => by unfold putW; rw [h])
  have HP1 : Hid (∀ s d r, findR l s.nm = some r → rwE s r.num r.den = 0 → putW l s d = (0, wrD s d r.num r.den)) := Hid.mk (fun s d r h h2 => by unfold putW; rw [h]; simp only [if_pos h2])
  have HP2 : Hid (∀ s d r, findR l s.nm = some r → ¬ rwE s r.num r.den = 0 → putW l s d = (rwE s r.num r.den, [])) := Hid.mk (fun s d r h h2 => by unfold putW; rw [h]; simp only [if_neg h2])
  have HLN : l.length = n := hF.len
  have HIX := Hid.mk (fun nm => idx_find l nm)
  rw [HLN] at HIX HEQ
  have HIF := Hid.mk (fun W nm g (hI : IsRds W a n c l) (hg : W.cell? ⟨g, 0, none⟩ = some (.string nm)) => indexFuncRd 41 #[.pointer (some ⟨g, 0, none⟩)] enter_nm (nmB nm) a n c l W hI (fun W' x hb => byNm_any x nm g W' (cell_kept hb hg)))
  have HB0 := Hid.mk (wt_B w v n8)
  have HM0 := Hid.mk (wt_M w v n8)
  have HS0 := Hid.mk (wt_S w v n8)
  have HZ0 := Hid.mk (wt_Z w v n8 hn88)
  have HIN := Hid.mk (fun W (h : Below w.heap.size w W) => hM.kept h)
  have HRD := Hid.mk (fun W (h : Below w.heap.size w W) => hF.kept h)
  have HDU : Hid (dupE l = firstE (fun i => firstE (fun j => if (rdAt l j).nm = (rdAt l i).nm then 9 else 0) i) n) := Hid.mk (by unfold dupE; rw [HLN])
  have HAT : Hid (∀ k, l.getD k noR = rdAt l k) := Hid.mk (fun _ => rfl)
  have hmk : ∀ W : World, (Instr.makeSlice 26 (.int .i64 (n8 : Int)) (.int .i64 (n8 : Int))).run Tryz.prog W = .ok (.slice (some ⟨W.heap.size, 0, none⟩) n8 n8) (W.alloc (.cells (madeCells #[.int .u8 0] n8) 5)) := by
    intro W
    exact run_make_row' 26 5 (.int .u8 0) 1 Tryz.underlying26 info_u8M rfl .i64 .i64 n8 (by omega) (by omega) W
  have hn63 : (n : Int) ≤ 9223372036854775807 := by have h1 := hF.le; have h2 := hF.max; unfold maxLen at h2; omega
  have HNC : Hid (n ≤ c) := Hid.mk hF.le
  have HCH : Hid (v.m.ch < 0 ∨ ∃ k0 : Nat, v.m.ch = k0 ∧ k0 < v.n) := Hid.mk (by
    have h1 := hO.ch1
    rcases Int.lt_or_le v.m.ch 0 with h | h
    · exact .inl h
    · exact .inr ⟨v.m.ch.toNat, by omega, by omega⟩)
  have HNL := Hid.mk HLN
  clear hM hF hE hO hlen HLN
  generalize writeE v.m l = WE at *
  generalize (fillE (putW l) v.m).2 = FD at *
  generalize lwR v.m l = LR at *
  generalize dupE l = DE at *
  generalize lwE v.m l = LW at *
  generalize choD v.m = CD at *
  generalize putW l = PW at *
  generalize ordL v.m = OL at *
  obtain ⟨⟨mid, mlo, mnm, size, mch, sigs⟩, ma, mn, mcap⟩ := v
  simp only at hn8
  subst hn8
  unfold wtW msC at HB0 HM0 HS0 HZ0
  unfold msV at HITH ⊢
  simp only at HB0 HM0 HS0 HZ0 HITH HUM HSR HOM HOL HON HOS HIN HCH hn16 ⊢
  obtain ⟨m0, m1, m2, m3, m4, m5⟩ := (MsAt.box w ⟨⟨mid, mlo, mnm, (n8 : Int), mch, sigs⟩, ma, mn, mcap⟩)
  unfold msC at m0 m1 m2 m3 m4 m5
  simp only at m0 m1 m2 m3 m4 m5
  go_enter Tryz.func11, Tryz.ntmps11
  go_wp2_with fail
  obtain ⟨W0, hW0⟩ : ∃ W0, W0 = ((w.alloc (.cells #[.int .i64 mid, .bool mlo, .string mnm, .int .i64 (n8 : Int), .int .i64 mch, .slice ma mn mcap] 24)).alloc (.cells #[.int .i64 0, .bool false, .bool false, .bool false, .int .i64 0, .slice none 0 0] 28)).alloc (.cells (madeCells #[.int .u8 0] n8) 5) := ⟨_, rfl⟩
  rw [← hW0] at HB0 HM0 HS0 HZ0 ⊢
  clear hW0 m0 m1 m2 m3 m4 m5
  go_loopw [23] (fun i wr => ∃ k : Nat, k ≤ n ∧ i = .int .i64 k ∧ Hid (firstE (fun i => firstE (fun j => if (rdAt l j).nm = (rdAt l i).nm then 9 else 0) i) k = 0) ∧ Hid (Below W0.heap.size W0 wr)) (fun i _ => n - (intOf i).toNat)
  case atStart => exact ⟨0, Nat.zero_le _, rfl, Hid.mk rfl, Hid.mk (Below.refl _ _)⟩
  case round =>
    obtain ⟨k, hk, rfl, HFE, HB⟩ := hrel
    by_cases hlt : k < n
    · have hlt' : (k : Int) < (n : Int) := by omega
      have hRow := HRD.out _ (bl2 HB0.out HB.out)
      obtain ⟨x, hx⟩ := hRow.some hlt
      subst hx
      obtain ⟨g0', g1, g2⟩ := hRow.at hlt
      have HROW := Hid.mk hRow
      clear hRow
      have HVV : Hid (∃ y, y = rdAt l k) := Hid.mk ⟨_, rfl⟩
      obtain ⟨r, hr⟩ := HVV.out
      rw [HAT.out, ← hr] at g0' g1 g2
      have HRR := Hid.mk hr
      clear hr HVV
      obtain ⟨rn, rnum, rden⟩ := r
      simp only at g0' g1 g2
      have HAL := Hid.mk (awB1 wr (.cells #[.string rn, .int .i64 rnum, .int .i64 rden] 44))
      have HRC := Hid.mk (rd_cells wr rn rnum rden).1
      have hsl : ∀ W, (Instr.slice 25 (.slice (some x) n c) none (some (.int .i64 (k : Int))) none).run Tryz.prog W = .ok (.slice (some x) k c) W := fun W => slice_hR x n c k (by have := HNC.out; omega) W
      have HROW1 := Hid.mk (HROW.out.kept HAL.out)
      have HBz := Hid.mk (bl2 HB.out HAL.out)
      go_wp2_with fail
      obtain ⟨wz, hwz⟩ : ∃ wz, wz = wr.alloc (.cells #[.string rn, .int .i64 rnum, .int .i64 rden] 44) := ⟨_, rfl⟩
      obtain ⟨g8, hg8⟩ : ∃ g8, g8 = wr.heap.size := ⟨_, rfl⟩
      rw [← hwz] at HRC HROW1 HBz ⊢
      rw [← hg8] at HRC ⊢
      have hkn : (k : Int) ≤ (n : Int) := by omega
      clear hwz hg8 HAL HROW hsl g0' g1 g2
      go_loopw [32] (fun j wy => ∃ q : Nat, q ≤ k ∧ j = .int .i64 q ∧ Hid (firstE (fun j => if (rdAt l j).nm = (rdAt l k).nm then 9 else 0) q = 0) ∧ Hid (Below wz.heap.size wz wy)) (fun j _ => k - (intOf j).toNat)
      case atStart => exact ⟨0, Nat.zero_le _, rfl, Hid.mk rfl, Hid.mk (Below.refl _ _)⟩
      case round =>
        obtain ⟨q, hq, rfl, HFQ, HBq⟩ := hrel
        by_cases hql : q < k
        · have hql' : (q : Int) < (k : Int) := by omega
          obtain ⟨o0, o1, o2⟩ := (HROW1.out.kept HBq.out).at (show q < n by omega)
          have HVV : Hid (∃ y, y = rdAt l q) := Hid.mk ⟨_, rfl⟩
          obtain ⟨r, hr⟩ := HVV.out
          rw [HAT.out, ← hr] at o0 o1 o2
          have HOO := Hid.mk hr
          clear hr HVV
          obtain ⟨on, onum, oden⟩ := r
          simp only at o0 o1 o2
          have HAL := Hid.mk (awB1 wr (.cells #[.string on, .int .i64 onum, .int .i64 oden] 44))
          have hrc := cell_kept HAL.out (cell_kept HBq.out HRC.out)
          have HBy := Hid.mk (bl2 HBq.out HAL.out)
          obtain ⟨oc0, oc1, oc2⟩ := rd_cells wr on onum oden
          by_cases hnm : on = rn
          · have e0 := str_yes hnm
            have HV : Hid (WE = 9) := Hid.mk (by
              have h1 : firstE (fun j => if (rdAt l j).nm = (rdAt l k).nm then 9 else 0) k = 9 := by
                rw [firstE_hit (k := q) HFQ.out (by rw [← HOO.out, ← HRR.out]; simp [hnm]) hql]
                rw [← HOO.out, ← HRR.out]
                simp [hnm]
              have h2 : DE = 9 := by
                rw [HDU.out, firstE_hit (k := k) HFE.out (by rw [h1]; decide) hlt]
                exact h1
              rw [HEQ.out, if_pos (by rw [h2]; decide)])
            have HS := Hid.mk (HS0.out.kept (bl2 HBz.out HBy.out))
            have HBB := Hid.mk (bl2 HB0.out (bl2 HBz.out HBy.out))
            clear hnm
            obtain ⟨⟨z0, z1, z2, z3, z4, z5⟩, y0, y1, y2, y3, y4, y5⟩ := HS.out.cells
            obtain ⟨⟨p1, q1⟩, ⟨p2, q2⟩, ⟨p3, q3⟩, ⟨p4, q4⟩, ⟨p5, q5⟩, hSX⟩ := HS.out.store (.int .i64 0) (.bool false) (.bool false) (.bool false) (.int .i64 0) (.slice none 0 0)
            have HSX := Hid.mk hSX
            clear hSX
            go_wp2_with fail
            refine bodyPost_ret (wt_res _ _ (w.heap.size + 1) _ _ _ _ _ _ _ rfl rfl HSX.out) rfl ?_
            refine ⟨six_B HBB.out (Nat.le_succ _) _ _ _ _ _ _, .inl ?_⟩
            exact ⟨by rw [HV.out]; decide, by rw [HV.out]; rfl⟩
          · have e0 := str_no hnm
            have HN : Hid (firstE (fun j => if (rdAt l j).nm = (rdAt l k).nm then 9 else 0) (q + 1) = 0) := Hid.mk (firstE_step HFQ.out (by rw [← HOO.out, ← HRR.out]; simp [hnm]))
            clear hnm
            go_wp2_with fail
            go_roundw
            case rel => exact ⟨q + 1, by omega, by go_num, HN, HBy⟩
            case measure => simp [intOf]; omega
        · have e : q = k := by omega
          subst e
          have HN : Hid (firstE (fun i => firstE (fun j => if (rdAt l j).nm = (rdAt l i).nm then 9 else 0) i) (q + 1) = 0) := Hid.mk (firstE_step HFE.out HFQ.out)
          have HBn := Hid.mk (bl2 HBz.out HBq.out)
          go_wp2_with fail
          go_roundw
          case rel => exact ⟨q + 1, by omega, by go_num, HN, HBn⟩
          case measure => simp [intOf]; omega
    · have e : k = n := by omega
      subst e
      have HEQ1 : Hid (WE = if LR.1 ≠ 0 then LR.1 else if LR.2.2 < k then 8 else 0) := Hid.mk (by rw [HEQ.out, if_neg (by rw [HDU.out, HFE.out]; simp)])
      obtain ⟨w3, hw3⟩ : ∃ w3, w3 = wr := ⟨_, rfl⟩
      rw [← hw3] at HB ⊢
      clear hw3 hlt hk HFE HEQ HDU
      have HB3 := Hid.mk (bl2 HB0.out HB.out)
      have HM3 := Hid.mk (HM0.out.kept HB.out)
      obtain ⟨m0, m1, m2, m3, m4, m5⟩ := HM3.out
      simp only at m0 m1 m2 m3 m4 m5
      have HZ3 := Hid.mk (isBytes_below HZ0.out HB.out)
      go_upto_if 48 with fail
      go_cut [12] (fun s12 wx => ∃ oa oc, s12 = .slice oa mn oc ∧ Hid (IsSigs wx oa mn oc OL) ∧ Hid (Below w3.heap.size w3 wx))
      case first =>
        rcases HCH.out with hneg | ⟨k0, hk0, hk0n⟩
        · have HR := Hid.mk (HIN.out _ HB3.out).row
          have HOE := Hid.mk (HON.out hneg)
          go_wp2_with fail
          go_meet
          exact ⟨_, _, rfl, by rw [HOE.out]; exact HR, Hid.mk (Below.refl _ _)⟩
        · subst hk0
          have hRow := (HIN.out _ HB3.out).row
          simp only at hRow
          obtain ⟨x, hx⟩ := hRow.some hk0n
          subst hx
          have HROW := Hid.mk hRow
          clear hRow
          have hk0' : (0 : Int) ≤ (k0 : Int) ∧ (k0 : Int) < (mn : Int) := by omega
          have HMC : Hid (mn ≤ mcap) := Hid.mk HROW.out.le
          have hsA : ∀ W, (Instr.slice 22 (.slice (some x) mn mcap) none (some (.int .i64 (k0 : Int))) none).run Tryz.prog W = .ok (.slice (some x) k0 mcap) W := fun W => slice_hS x mn mcap k0 (by have := HMC.out; omega) W
          obtain ⟨y, hy⟩ : ∃ y, y = (if mcap = k0 + 1 then x else x.add ((k0 + 1) * 9)) := ⟨_, rfl⟩
          obtain ⟨nb, hnb⟩ : ∃ nb, nb = mn - (k0 + 1) := ⟨_, rfl⟩
          obtain ⟨cb, hcb⟩ : ∃ cb, cb = mcap - (k0 + 1) := ⟨_, rfl⟩
          have hsB : ∀ W, (Instr.slice 22 (.slice (some x) mn mcap) (some (.int .i64 ((k0 : Int) + 1))) none none).run Tryz.prog W = .ok (.slice (some y) nb cb) W := fun W => by rw [hy, hnb, hcb]; exact slice_lS x mn mcap k0 hk0n W
          have hwp : IntKind.i64.wrap ((k0 : Int) + 1) = (k0 : Int) + 1 := by rw [IntKind.wrap_i64]; omega
          have hsB2 : ∀ W, (Instr.slice 22 (.slice (some x) mn mcap) (some (.int .i64 (IntKind.i64.wrap ((k0 : Int) + 1)))) none none).run Tryz.prog W = .ok (.slice (some y) nb cb) W := fun W => by rw [hwp]; exact hsB W
          have HIA := Hid.mk (HROW.out.take (k := k0) (by omega))
          have hIB := sigs_drop HROW.out (k := k0 + 1) (by omega)
          rw [← hy, ← hnb, ← hcb] at hIB
          have HIB := Hid.mk hIB
          have HNB : Hid (k0 + nb + 1 = mn) := Hid.mk (by omega)
          have HOE := Hid.mk (HOS.out k0 rfl)
          have HLB : Hid ((sigs.take k0 ++ sigs.drop (k0 + 1)).length = k0 + nb) := Hid.mk (by rw [List.length_append, HIA.out.len, HIB.out.len])
          clear hy hnb hcb hIB hwp
          have HCON := Hid.mk (fun W g (hb : Below w3.heap.size w3 W) (hT : TwoSg W g x k0 mcap y nb cb) => concatS_any g x k0 mcap (sigs.take k0) y nb cb (sigs.drop (k0 + 1)) W hT (HIA.out.kept hb) (HIB.out.kept hb) (by have := HNB.out; omega))
          have hSg := HROW.out.at hk0n
          generalize sigs.take k0 ++ sigs.drop (k0 + 1) = RS at *
          generalize hSK : sigs.getD k0 noS = SK at *
          clear hSK
          have HEL : Hid (∀ W, Below w3.heap.size w3 W → (W.cell? ⟨w.heap.size, 4, none⟩ = some (.int .i64 (k0 : Int)) ∧ W.cell? ⟨w.heap.size, 5, none⟩ = some (.slice (some x) mn mcap)) ∧ SgOn W (x.add (k0 * 9)) SK) := Hid.mk (fun W hb => ⟨⟨cell_kept hb m4, cell_kept hb m5⟩, ⟨cell_kept hb hSg.c0, cell_kept hb hSg.c1, cell_kept hb hSg.c2, cell_kept hb hSg.c3, cell_kept hb hSg.c4, cell_kept hb hSg.c5, cell_kept hb hSg.c6, cell_kept hb hSg.c7, cell_kept hb hSg.c8⟩⟩)
          obtain ⟨nm, st, sz, bk, sg, mu, di, ad, ky⟩ := SK
          have HEM : Hid (∀ W, Below w3.heap.size w3 W → W.cell? ⟨w.heap.size, 4, none⟩ = some (.int .i64 (k0 : Int)) ∧ W.cell? ⟨w.heap.size, 5, none⟩ = some (.slice (some x) mn mcap) ∧ W.cell? (x.add (k0 * 9)) = some (.string nm) ∧ W.cell? ⟨(x.add (k0 * 9)).block, (x.add (k0 * 9)).off + 1, none⟩ = some (.int .i64 st) ∧ W.cell? ⟨(x.add (k0 * 9)).block, (x.add (k0 * 9)).off + 2, none⟩ = some (.int .i64 sz) ∧ W.cell? ⟨(x.add (k0 * 9)).block, (x.add (k0 * 9)).off + 3, none⟩ = some (.bool bk) ∧ W.cell? ⟨(x.add (k0 * 9)).block, (x.add (k0 * 9)).off + 4, none⟩ = some (.bool sg) ∧ W.cell? ⟨(x.add (k0 * 9)).block, (x.add (k0 * 9)).off + 5, none⟩ = some (.int .i64 mu) ∧ W.cell? ⟨(x.add (k0 * 9)).block, (x.add (k0 * 9)).off + 6, none⟩ = some (.int .i64 di) ∧ W.cell? ⟨(x.add (k0 * 9)).block, (x.add (k0 * 9)).off + 7, none⟩ = some (.int .i64 ad) ∧ W.cell? ⟨(x.add (k0 * 9)).block, (x.add (k0 * 9)).off + 8, none⟩ = some (.int .i64 ky)) := Hid.mk (fun W hb => by
            obtain ⟨⟨h4, h5⟩, hh⟩ := HEL.out W hb
            exact ⟨h4, h5, hh.c0, hh.c1, hh.c2, hh.c3, hh.c4, hh.c5, hh.c6, hh.c7, hh.c8⟩)
          have HLIT : Hid (∀ W : World, (W.alloc (.cells #[.string nm, .int .i64 st, .int .i64 sz, .bool bk, .bool sg, .int .i64 mu, .int .i64 di, .int .i64 ad, .int .i64 ky] 42)).heap[W.heap.size]? = some (sgC ⟨nm, st, sz, bk, sg, mu, di, ad, ky⟩)) := Hid.mk (fun W => heap_alloc_new W _)
          have HCc := Hid.mk (HCON.out _ w3.heap.size (bA1 w3 (.cells #[.slice (some x) k0 mcap, .slice (some y) nb cb] 22)) ⟨cell_of_row _ _ 0 _ _ _ (heap_alloc_new w3 _), cell_of_row _ _ 1 _ _ _ (heap_alloc_new w3 _)⟩)
          have HCa := Hid.mk (HCON.out _ (w3.heap.size + 1) (bA2 w3 (.cells #[.string nm, .int .i64 st, .int .i64 sz, .bool bk, .bool sg, .int .i64 mu, .int .i64 di, .int .i64 ad, .int .i64 ky] 42) (.cells #[.slice (some x) k0 mcap, .slice (some y) nb cb] 22)) (by
            have h := heap_alloc_new (w3.alloc (.cells #[.string nm, .int .i64 st, .int .i64 sz, .bool bk, .bool sg, .int .i64 mu, .int .i64 di, .int .i64 ad, .int .i64 ky] 42)) (.cells #[.slice (some x) k0 mcap, .slice (some y) nb cb] 22)
            rw [show (w3.alloc (.cells #[.string nm, .int .i64 st, .int .i64 sz, .bool bk, .bool sg, .int .i64 mu, .int .i64 di, .int .i64 ad, .int .i64 ky] 42)).heap.size = w3.heap.size + 1 by simp] at h
            exact ⟨cell_of_row _ _ 0 _ _ _ h, cell_of_row _ _ 1 _ _ _ h⟩))
          have HCb := Hid.mk (HCON.out _ w3.heap.size (bA2 w3 (.cells #[.slice (some x) k0 mcap, .slice (some y) nb cb] 22) (.cells #[.string nm, .int .i64 st, .int .i64 sz, .bool bk, .bool sg, .int .i64 mu, .int .i64 di, .int .i64 ad, .int .i64 ky] 42)) (by
            have h := ((awB1 (w3.alloc (.cells #[.slice (some x) k0 mcap, .slice (some y) nb cb] 22)) (.cells #[.string nm, .int .i64 st, .int .i64 sz, .bool bk, .bool sg, .int .i64 mu, .int .i64 di, .int .i64 ad, .int .i64 ky] 42)).block w3.heap.size (by simp)).trans (heap_alloc_new w3 (.cells #[.slice (some x) k0 mcap, .slice (some y) nb cb] 22))
            exact ⟨cell_of_row _ _ 0 _ _ _ h, cell_of_row _ _ 1 _ _ _ h⟩))
          have HLa : Hid ((((w3.alloc (.cells #[.string nm, .int .i64 st, .int .i64 sz, .bool bk, .bool sg, .int .i64 mu, .int .i64 di, .int .i64 ad, .int .i64 ky] 42)).alloc (.cells #[.slice (some x) k0 mcap, .slice (some y) nb cb] 22)).drew).heap[w3.heap.size]? = some (sgC ⟨nm, st, sz, bk, sg, mu, di, ad, ky⟩)) := Hid.mk (((awB1 (w3.alloc (.cells #[.string nm, .int .i64 st, .int .i64 sz, .bool bk, .bool sg, .int .i64 mu, .int .i64 di, .int .i64 ad, .int .i64 ky] 42)) (.cells #[.slice (some x) k0 mcap, .slice (some y) nb cb] 22)).block w3.heap.size (by simp)).trans (HLIT.out w3))
          have HLb : Hid ((((w3.alloc (.cells #[.slice (some x) k0 mcap, .slice (some y) nb cb] 22)).alloc (.cells #[.string nm, .int .i64 st, .int .i64 sz, .bool bk, .bool sg, .int .i64 mu, .int .i64 di, .int .i64 ad, .int .i64 ky] 42)).drew).heap[w3.heap.size + 1]? = some (sgC ⟨nm, st, sz, bk, sg, mu, di, ad, ky⟩)) := Hid.mk (by
            have h := HLIT.out (w3.alloc (.cells #[.slice (some x) k0 mcap, .slice (some y) nb cb] 22))
            rw [show (w3.alloc (.cells #[.slice (some x) k0 mcap, .slice (some y) nb cb] 22)).heap.size = w3.heap.size + 1 by simp] at h
            exact h)
          have HNN : Hid (k0 + nb ≤ 1000 ∧ 1 + (k0 + nb) = mn) := Hid.mk (by have := HNB.out; omega)
          clear m0 m1 m2 m3 m4 m5 hSg HCON HEL
          go_wp2_with fail
          go_region_held3 (fun W => W.cell? ⟨w.heap.size, 4, none⟩ = some (.int .i64 (k0 : Int)) ∧ W.cell? ⟨w.heap.size, 5, none⟩ = some (.slice (some x) mn mcap) ∧ W.cell? (x.add (k0 * 9)) = some (.string nm) ∧ W.cell? ⟨(x.add (k0 * 9)).block, (x.add (k0 * 9)).off + 1, none⟩ = some (.int .i64 st) ∧ W.cell? ⟨(x.add (k0 * 9)).block, (x.add (k0 * 9)).off + 2, none⟩ = some (.int .i64 sz) ∧ W.cell? ⟨(x.add (k0 * 9)).block, (x.add (k0 * 9)).off + 3, none⟩ = some (.bool bk) ∧ W.cell? ⟨(x.add (k0 * 9)).block, (x.add (k0 * 9)).off + 4, none⟩ = some (.bool sg) ∧ W.cell? ⟨(x.add (k0 * 9)).block, (x.add (k0 * 9)).off + 5, none⟩ = some (.int .i64 mu) ∧ W.cell? ⟨(x.add (k0 * 9)).block, (x.add (k0 * 9)).off + 6, none⟩ = some (.int .i64 di) ∧ W.cell? ⟨(x.add (k0 * 9)).block, (x.add (k0 * 9)).off + 7, none⟩ = some (.int .i64 ad) ∧ W.cell? ⟨(x.add (k0 * 9)).block, (x.add (k0 * 9)).off + 8, none⟩ = some (.int .i64 ky)) (first | exact HEM.out _ (bD _) | exact HEM.out _ (bA1 _ _) | exact HEM.out _ (bA2 _ _ _) | exact HEM.out _ HB6.out | exact HEM.out _ HB6L.out | exact HEM.out _ HB7.out) (first
            | (go_at_call 39; first
               | (with_reducible refine HCa.out.mono ?_; rintro e w6 ⟨u6, rfl, HO6, hb6⟩
                  have HB6 := Hid.mk (bl2 (bA2 w3 _ _) hb6)
                  obtain ⟨oa, oc, w7, hr7, hS7, hg7⟩ := app_order _ RS _ mn w3.heap.size _ u6 w6 ((hb6.block _ (by simp; omega)).trans HLa.out) HO6.out HLB.out HNN.out.2 HNN.out.1
                  have HAP := Hid.mk hr7
                  have HS7 := Hid.mk hS7
                  have HB7 : Hid (Below w3.heap.size w3 w7) := Hid.mk (Below.grown HB6.out hg7 HB6.out.size (fun q hq => by cases hq; omega))
                  clear hb6 hr7 hS7 hg7)
               | (with_reducible refine HCb.out.mono ?_; rintro e w6 ⟨u6, rfl, HO6, hb6⟩
                  have HB6 := Hid.mk (bl2 (bA2 w3 _ _) hb6)
                  obtain ⟨oa, oc, w7, hr7, hS7, hg7⟩ := app_order _ RS _ mn (w3.heap.size + 1) _ u6 w6 ((hb6.block _ (by simp)).trans HLb.out) HO6.out HLB.out HNN.out.2 HNN.out.1
                  have HAP := Hid.mk hr7
                  have HS7 := Hid.mk hS7
                  have HB7 : Hid (Below w3.heap.size w3 w7) := Hid.mk (Below.grown HB6.out hg7 HB6.out.size (fun q hq => by cases hq; omega))
                  clear hb6 hr7 hS7 hg7)
               | (with_reducible refine HCc.out.mono ?_; rintro e w6 ⟨u6, rfl, HO6, hb6⟩
                  have HB6 := Hid.mk (bl2 (bA1 w3 _) hb6)
                  obtain ⟨oa, oc, w7, hr7, hS7, hg7⟩ := app_order _ RS _ mn w6.heap.size _ u6 _ (HLIT.out w6) (HO6.out.alloc _) HLB.out HNN.out.2 HNN.out.1
                  have HB6L := Hid.mk (bl2 HB6.out (awB1 w6 (.cells #[.string nm, .int .i64 st, .int .i64 sz, .bool bk, .bool sg, .int .i64 mu, .int .i64 di, .int .i64 ad, .int .i64 ky] 42)))
                  have HAP := Hid.mk hr7
                  have HS7 := Hid.mk hS7
                  have HB7 : Hid (Below w3.heap.size w3 w7) := Hid.mk (Below.grown HB6L.out hg7 HB6L.out.size (fun q hq => by cases hq; exact HB6.out.size))
                  clear hb6 hr7 hS7 hg7))
            | (refine step_append_run _ rfl (.tmp 55) (.tmp 68) 22 22 rfl _ _ rfl rfl _ _ HAP.out ?_))
          all_goals focus
            go_wp2_with fail
            go_meet
            exact ⟨_, _, rfl, by rw [HOE.out]; exact HS7, HB7⟩
      case rest =>
        obtain ⟨oa, oc, rfl, HOR, HBc⟩ := hcut
        clear m0 m1 m2 m3 m4 m5
        have HMc := Hid.mk (HM3.out.kept HBc.out)
        have HZc := Hid.mk (isBytes_below HZ3.out HBc.out)
        have HSc := Hid.mk (HS0.out.kept (bl2 HB.out HBc.out))
        have HBw := Hid.mk (bl2 HB3.out HBc.out)
        have hmn63 : (mn : Int) ≤ 16 := by omega
        clear HM3 HZ3 HB3 HM0 HS0 HB0 HZ0 HB HBc hmk
        go_wp2_with fail
        go_loopw [6, 11, 72] (fun dv uv i wr => ∃ q : Nat, q ≤ mn ∧ i = .int .i64 q ∧ ∃ da dc d, ∃ u : Nat, dv = .slice da n8 dc ∧ uv = .int .i64 u ∧ u ≤ q ∧ Hid (IsBytes wr da n8 dc d) ∧ Hid (LW (OL.drop q) d u = LR) ∧ Hid (Below wc.heap.size wc wr)) (fun _ _ i _ => mn - (intOf i).toNat)
        case atStart => exact ⟨0, Nat.zero_le _, rfl, _, _, List.replicate n8 0, 0, rfl, rfl, Nat.le_refl _, HZc, HLR, Hid.mk (Below.refl _ _)⟩
        case round =>
          obtain ⟨q, hq, rfl, da, dc, d, u, rfl, rfl, huq, HBy, HLW, HB⟩ := hrel
          by_cases hlt : q < mn
          · have hlt' : (q : Int) < (mn : Int) := by omega
            obtain ⟨x, hx⟩ := HOR.out.some hlt
            cases hx
            have hSg := (HOR.out.kept HB.out).at hlt
            have HMEM := Hid.mk (HOM.out _ (HOR.out.mem hlt))
            have HDR : Hid (OL.drop q = OL.getD q noS :: OL.drop (q + 1)) := Hid.mk (by
              have h1 : q < OL.length := by rw [HOL.out]; exact hlt
              rw [getD_at h1]
              exact List.drop_eq_getElem_cons h1)
            generalize OL.getD q noS = SK at *
            have HBX1 := Hid.mk (sg_box wr SK)
            have HSAT := Hid.mk (SgAt.box wr SK)
            have hLWe := HLW.out
            rw [HDR.out, HLC.out] at hLWe
            have HLE := Hid.mk hLWe
            have HTk := Hid.mk (fun W (hI : MsIn W ⟨⟨mid, mlo, mnm, (n8 : Int), mch, sigs⟩, ma, mn, mcap⟩) (hB : IsBytes W da n8 dc d) => HITH.out SK da dc d W HMEM.out hI hB)
            have HP0k := Hid.mk (fun h => HP0.out SK d h)
            have HP1k := Hid.mk (fun r h1 h2 => HP1.out SK d r h1 h2)
            have HP2k := Hid.mk (fun r h1 h2 => HP2.out SK d r h1 h2)
            have HIXk := Hid.mk (HIX.out SK.nm)
            have HIFk := Hid.mk (fun W g hI hg => HIF.out W SK.nm g hI hg)
            have HUMk := Hid.mk (fun num den W => HUM.out SK num den W HMEM.out)
            have HSRk := Hid.mk (fun num den W h => HSR.out SK da dc d num den W HMEM.out h)
            have HB1 := Hid.mk (bl2 HB.out HBX1.out)
            have HM1 := Hid.mk (HMc.out.kept HB1.out)
            have HS1 := Hid.mk (HSc.out.kept HB1.out)
            have HBy1 := Hid.mk (isBytes_below HBy.out HBX1.out)
            have HIN1 := Hid.mk (HIN.out _ (bl2 HBw.out HB1.out))
            clear hLWe HDR HMEM HBX1
            generalize thB (CD d) SK = TH at *
            generalize PW SK d = PD at *
            generalize rwE SK = RW at *
            generalize wrD SK d = WD at *
            generalize rawV SK = RV0 at *
            generalize hOD : OL.drop (q + 1) = OD at *
            have HOD := Hid.mk hOD
            clear hOD
            obtain ⟨nm, st, sz, bk, sg, mu, di, ad, ky⟩ := SK
            unfold sgC at HB1 HM1 HS1 HBy1 HIN1 HSAT
            unfold sgV at HTk HUMk HSRk
            obtain ⟨s0, s1, s2, s3, s4, s5, s6, s7, s8⟩ := hSg
            obtain ⟨m0, m1, m2, m3, m4, m5⟩ := HM1.out
            simp only at s0 s1 s2 s3 s4 s5 s6 s7 s8 m0 m1 m2 m3 m4 m5 HTk HUMk HSRk HIXk HIFk HP0k HP1k HP2k HSAT
            obtain ⟨W1, hW1⟩ : ∃ W1, W1 = wr.alloc (.cells #[.string nm, .int .i64 st, .int .i64 sz, .bool bk, .bool sg, .int .i64 mu, .int .i64 di, .int .i64 ad, .int .i64 ky] 42) := ⟨_, rfl⟩
            have HW1 := Hid.mk hW1
            cases TH with
            | false =>
              have HN : Hid (LW OD d u = LR) := Hid.mk (by have h := HLE.out; rw [if_neg (by simp)] at h; exact h)
              clear HLE hW1
              go_wp2_with fail
              refine (HTk.out _ HIN1.out HBy1.out).mono ?_
              rintro e w5 ⟨rfl, hb5⟩
              have HB5 := Hid.mk (bl2 HB1.out hb5)
              have HBy5 := Hid.mk (isBytes_below HBy1.out hb5)
              clear hb5
              go_wp2_with fail
              go_roundw
              case rel => exact ⟨q + 1, by omega, by go_num, da, dc, d, u, rfl, rfl, by omega, HBy5, by rw [HOD.out]; exact HN, HB5⟩
              case measure => simp [intOf]; omega
            | true =>
              have HLE2 : Hid ((if PD.1 = 0 then LW OD PD.2 (u + 1) else (PD.1, [], 0)) = LR) := Hid.mk (by have h := HLE.out; rw [if_pos rfl] at h; exact h)
              clear HLE hW1
              go_wp2_with fail
              refine (HTk.out _ HIN1.out HBy1.out).mono ?_
              rintro e w5 ⟨rfl, hb5⟩
              have HB5 := Hid.mk (bl2 HB1.out hb5)
              have HBy5 := Hid.mk (isBytes_below HBy1.out hb5)
              have HS5 := Hid.mk (HS1.out.kept hb5)
              have HSg5 := Hid.mk (HSAT.out.kept hb5)
              have HRD5 := Hid.mk (HRD.out _ (bl2 HBw.out HB5.out))
              clear hb5 s0 s1 s2 s3 s4 s5 s6 s7 s8 m0 m1 m2 m3 m4 m5
              obtain ⟨s0, s1, s2, s3, s4, s5, s6, s7, s8⟩ := HSg5.out
              simp only at s0 s1 s2 s3 s4 s5 s6 s7 s8
              have HIF5 := Hid.mk (HIFk.out _ wr.heap.size HRD5.out s0)
              have hmf : ∀ (fn : Fn) (first cap : Array Value) (w : World), (Instr.makeFunc fn first cap).run Tryz.prog w = .ok (.func fn first cap) w := fun _ _ _ _ => rfl
              rcases HIXk.out with ⟨hf, hix⟩ | ⟨j, hj, hix, hf⟩
              · rw [hix] at HIF5
                have HPD := Hid.mk (HP0k.out hf)
                have HV : Hid (WE = 14) := Hid.mk (by
                  have h := HLE2.out
                  rw [HPD.out, if_neg (by simp)] at h
                  rw [HEQ1.out, ← h, if_pos (by simp)])
                clear hix hf
                go_wp2_with fail
                refine HIF5.out.mono ?_
                rintro e w6 ⟨rfl, hb6⟩
                have HBB := Hid.mk (bl2 HBw.out (bl2 HB5.out hb6))
                have HS6 := Hid.mk (HS5.out.kept hb6)
                clear hb6
                obtain ⟨⟨z0, z1, z2, z3, z4, z5⟩, y0, y1, y2, y3, y4, y5⟩ := HS6.out.cells
                obtain ⟨⟨p1, q1⟩, ⟨p2, q2⟩, ⟨p3, q3⟩, ⟨p4, q4⟩, ⟨p5, q5⟩, hSX⟩ := HS6.out.store (.int .i64 0) (.bool false) (.bool false) (.bool false) (.int .i64 0) (.slice none 0 0)
                have HSX := Hid.mk hSX
                clear hSX
                go_wp2_with fail
                refine bodyPost_ret (wt_res _ _ (w.heap.size + 1) _ _ _ _ _ _ _ rfl rfl HSX.out) rfl ?_
                refine ⟨six_B HBB.out (Nat.le_succ _) _ _ _ _ _ _, .inl ?_⟩
                exact ⟨by rw [HV.out]; decide, by rw [HV.out]; rfl⟩
              · rw [hix] at HIF5
                have hj' : (0 : Int) ≤ (j : Int) ∧ (j : Int) < (k : Int) := by omega
                have hj2 : ¬ ((j : Int) < 0) := by omega
                clear hix
                go_wp2_with fail
                refine HIF5.out.mono ?_
                rintro e w6 ⟨rfl, hb6⟩
                have HB6 := Hid.mk (bl2 HB5.out hb6)
                have HBy6 := Hid.mk (isBytes_below HBy5.out hb6)
                have HS6 := Hid.mk (HS5.out.kept hb6)
                have HSg6 := Hid.mk (HSg5.out.kept hb6)
                have hRD6 := HRD5.out.kept hb6
                clear hb6 s0 s1 s2 s3 s4 s5 s6 s7 s8
                obtain ⟨xa, hxa⟩ := hRD6.some hj
                cases hxa
                obtain ⟨o0, o1, o2⟩ := hRD6.at hj
                rw [HAT.out] at o0 o1 o2
                clear hRD6
                have HPA := Hid.mk (HP1k.out _ hf)
                have HPB := Hid.mk (HP2k.out _ hf)
                generalize rdAt l j = r at *
                obtain ⟨rn, rnum, rden⟩ := r
                simp only at o0 o1 o2 HPA HPB
                clear hf
                obtain ⟨s0, s1, s2, s3, s4, s5, s6, s7, s8⟩ := HSg6.out
                simp only at s0 s1 s2 s3 s4 s5 s6 s7 s8
                have HU6 := Hid.mk (fun W => HUMk.out rnum rden W)
                have HSR6 := Hid.mk (fun W h => HSRk.out rnum rden W h)
                generalize RW rnum rden = RE at *
                generalize RV0 rnum rden = RVV at *
                generalize WD rnum rden = WDD at *
                by_cases hz : RE = 0
                · subst hz
                  have HPD := Hid.mk (HPA.out rfl)
                  rw [if_pos rfl] at HU6
                  have HN : Hid (LW OD WDD (u + 1) = LR) := Hid.mk (by have h := HLE2.out; rw [HPD.out, if_pos rfl] at h; exact h)
                  go_wp2_with fail
                  have r0 := fun d os => cell_kept (below_regrown w6 d os) s0
                  have r1 := fun d os => cell_kept (below_regrown w6 d os) s1
                  have r2 := fun d os => cell_kept (below_regrown w6 d os) s2
                  have r3 := fun d os => cell_kept (below_regrown w6 d os) s3
                  have r4 := fun d os => cell_kept (below_regrown w6 d os) s4
                  have r5 := fun d os => cell_kept (below_regrown w6 d os) s5
                  have r6 := fun d os => cell_kept (below_regrown w6 d os) s6
                  have r7 := fun d os => cell_kept (below_regrown w6 d os) s7
                  have r8 := fun d os => cell_kept (below_regrown w6 d os) s8
                  have v0 := fun d os => cell_kept (below_regrown w6 d os) o0
                  have v1 := fun d os => cell_kept (below_regrown w6 d os) o1
                  have v2 := fun d os => cell_kept (below_regrown w6 d os) o2
                  refine wp_region_quiet_below (by kernel_rfl) (by kernel_rfl) ?_
                  repeat (go_big_quiet_step ((go_at_call 17; exact Calls.regrown_of (HU6.out _))))
                  refine wpQuiet_nil ?_
                  intro _ hw'
                  obtain ⟨⟨dq, osq⟩, hw''⟩ := hw'
                  have hbq := below_regrown w6 dq osq
                  rw [hw'']
                  generalize grow (redrawn w6 dq) osq = w7 at *
                  have HB7 := Hid.mk (bl2 HB6.out hbq)
                  have HBy7 := Hid.mk (isBytes_below HBy6.out hbq)
                  have HSg7 := Hid.mk (HSg6.out.kept hbq)
                  clear hw'' hbq s0 s1 s2 s3 s4 s5 s6 s7 s8 o0 o1 o2 r0 r1 r2 r3 r4 r5 r6 r7 r8 v0 v1 v2
                  obtain ⟨s0, s1, s2, s3, s4, s5, s6, s7, s8⟩ := HSg7.out
                  simp only at s0 s1 s2 s3 s4 s5 s6 s7 s8
                  go_wp2_with fail
                  refine (HSR6.out _ HBy7.out).mono ?_
                  rintro e w8 ⟨a8, c8, rfl, hB8, hb8⟩
                  have HB8 := Hid.mk (bl2 HB7.out hb8)
                  have HBy8 := Hid.mk hB8
                  clear hb8 hB8 s0 s1 s2 s3 s4 s5 s6 s7 s8
                  have hu63 : (u : Int) ≤ 16 := by omega
                  go_wp2_with fail
                  go_roundw
                  case rel => exact ⟨q + 1, by omega, by go_num, a8, c8, WDD, u + 1, rfl, by go_num, by omega, HBy8, by rw [HOD.out]; exact HN, HB8⟩
                  case measure => simp [intOf]; omega
                · have HPD := Hid.mk (HPB.out hz)
                  rw [if_neg hz] at HU6
                  have hz' : (RE != 0) = true := by simpa using hz
                  have HV : Hid (WE = RE) := Hid.mk (by
                    have h := HLE2.out
                    rw [HPD.out, if_neg hz] at h
                    rw [HEQ1.out, ← h, if_pos hz])
                  have HZZ := Hid.mk hz
                  clear hz
                  go_wp2_with fail
                  have r0 := fun d os => cell_kept (below_regrown w6 d os) s0
                  have r1 := fun d os => cell_kept (below_regrown w6 d os) s1
                  have r2 := fun d os => cell_kept (below_regrown w6 d os) s2
                  have r3 := fun d os => cell_kept (below_regrown w6 d os) s3
                  have r4 := fun d os => cell_kept (below_regrown w6 d os) s4
                  have r5 := fun d os => cell_kept (below_regrown w6 d os) s5
                  have r6 := fun d os => cell_kept (below_regrown w6 d os) s6
                  have r7 := fun d os => cell_kept (below_regrown w6 d os) s7
                  have r8 := fun d os => cell_kept (below_regrown w6 d os) s8
                  have v0 := fun d os => cell_kept (below_regrown w6 d os) o0
                  have v1 := fun d os => cell_kept (below_regrown w6 d os) o1
                  have v2 := fun d os => cell_kept (below_regrown w6 d os) o2
                  refine wp_region_quiet_below (by kernel_rfl) (by kernel_rfl) ?_
                  repeat (go_big_quiet_step ((go_at_call 17; exact Calls.regrown_of (HU6.out _))))
                  refine wpQuiet_nil ?_
                  intro _ hw'
                  obtain ⟨⟨dq, osq⟩, hw''⟩ := hw'
                  have hbq := below_regrown w6 dq osq
                  rw [hw'']
                  generalize grow (redrawn w6 dq) osq = w7 at *
                  have HBB := Hid.mk (bl2 HBw.out (bl2 HB6.out hbq))
                  have HS7 := Hid.mk (HS6.out.kept hbq)
                  clear hw'' hbq s0 s1 s2 s3 s4 s5 s6 s7 s8 o0 o1 o2 r0 r1 r2 r3 r4 r5 r6 r7 r8 v0 v1 v2
                  obtain ⟨⟨z0, z1, z2, z3, z4, z5⟩, y0, y1, y2, y3, y4, y5⟩ := HS7.out.cells
                  obtain ⟨⟨p1, q1⟩, ⟨p2, q2⟩, ⟨p3, q3⟩, ⟨p4, q4⟩, ⟨p5, q5⟩, hSX⟩ := HS7.out.store (.int .i64 0) (.bool false) (.bool false) (.bool false) (.int .i64 0) (.slice none 0 0)
                  have HSX := Hid.mk hSX
                  clear hSX
                  go_wp2_with fail
                  refine bodyPost_ret (wt_res _ _ (w.heap.size + 1) _ _ _ _ _ _ _ rfl rfl HSX.out) rfl ?_
                  refine ⟨six_B HBB.out (Nat.le_succ _) _ _ _ _ _ _, .inl ?_⟩
                  exact ⟨by rw [HV.out]; exact HZZ.out, by rw [HV.out]; rfl⟩
          · have e : q = mn := by omega
            subst e
            have hLWe := HLW.out
            rw [List.drop_of_length_le (by rw [HOL.out]; exact Nat.le_refl _), HL0.out] at hLWe
            have HBB := Hid.mk (bl2 HBw.out HB.out)
            have HSe := Hid.mk (HSc.out.kept HB.out)
            have HMe := Hid.mk (HMc.out.kept HB.out)
            obtain ⟨m0, m1, m2, m3, m4, m5⟩ := HMe.out
            simp only at m0 m1 m2 m3 m4 m5
            by_cases hless : u < k
            · have hless' : (u : Int) < (k : Int) := by omega
              have HV : Hid (WE = 8) := Hid.mk (by rw [HEQ1.out, ← hLWe, if_neg (by simp), if_pos hless])
              clear hLWe
              obtain ⟨⟨z0, z1, z2, z3, z4, z5⟩, y0, y1, y2, y3, y4, y5⟩ := HSe.out.cells
              obtain ⟨⟨p1, q1⟩, ⟨p2, q2⟩, ⟨p3, q3⟩, ⟨p4, q4⟩, ⟨p5, q5⟩, hSX⟩ := HSe.out.store (.int .i64 0) (.bool false) (.bool false) (.bool false) (.int .i64 0) (.slice none 0 0)
              have HSX := Hid.mk hSX
              clear hSX
              go_wp2_with fail
              refine bodyPost_ret (wt_res _ _ (w.heap.size + 1) _ _ _ _ _ _ _ rfl rfl HSX.out) rfl ?_
              refine ⟨six_B HBB.out (Nat.le_succ _) _ _ _ _ _ _, .inl ?_⟩
              exact ⟨by rw [HV.out]; decide, by rw [HV.out]; rfl⟩
            · have hless' : ¬ ((u : Int) < (k : Int)) := by omega
              have HV : Hid (WE = 0) := Hid.mk (by rw [HEQ1.out, ← hLWe, if_neg (by simp), if_neg hless])
              have HFD : Hid (d = FD) := Hid.mk (by have h := HDAT.out (by rw [← hLWe]); rw [← hLWe] at h; exact h)
              clear hLWe
              obtain ⟨⟨z0, z1, z2, z3, z4, z5⟩, y0, y1, y2, y3, y4, y5⟩ := HSe.out.cells
              obtain ⟨⟨p1, q1⟩, ⟨p2, q2⟩, ⟨p3, q3⟩, ⟨p4, q4⟩, ⟨p5, q5⟩, hSX⟩ := HSe.out.store (.int .i64 mid) (.bool mlo) (.bool false) (.bool false) (.int .i64 0) (.slice da n8 dc)
              have HSX := Hid.mk hSX
              have HBX : Hid (IsBytes (((((((wr.setCell ⟨w.heap.size + 1, 0, none⟩ (.int .i64 mid))).setCell ⟨w.heap.size + 1, 1, none⟩ (.bool mlo)).setCell ⟨w.heap.size + 1, 2, none⟩ (.bool false)).setCell ⟨w.heap.size + 1, 3, none⟩ (.bool false)).setCell ⟨w.heap.size + 1, 4, none⟩ (.int .i64 0)).setCell ⟨w.heap.size + 1, 5, none⟩ (.slice da n8 dc)) da n8 dc d) := Hid.mk (bytes_six HSe.out HBy.out _ _ _ _ _ _)
              clear hSX
              go_wp2_with fail
              refine bodyPost_ret (wt_res _ _ (w.heap.size + 1) _ _ _ _ _ _ _ rfl rfl HSX.out) rfl ?_
              exact ⟨six_B HBB.out (Nat.le_succ _) _ _ _ _ _ _, .inr ⟨HV.out, da, dc, rfl, by rw [← HFD.out]; exact HBX.out⟩⟩
end Bw
end Go.Proofs.YtjgliinpaadbnaaGreatDoor
namespace Go.Proofs.YtjgliinpaadbnaaGreatDoor
open Go.ChangeShapes Go.WideShapes Go.ChangeAt Go.RowKit
namespace Bw
open Sm
theorem fv_new (w : World) (id : Int) (lo : Bool) (a : Option Addr) (n c : Nat) : FrAt (w.alloc (.cells #[.int .i64 id, .bool lo, .bool false, .bool false, .int .i64 0, .slice a n c] 28)) w.heap.size id lo false false 0 a n c := by
  have h := fun j => cell_of_row (w.alloc (.cells #[.int .i64 id, .bool lo, .bool false, .bool false, .int .i64 0, .slice a n c] 28)) w.heap.size j _ _ _ (heap_alloc_new w _)
  exact ⟨h 0, h 1, h 2, h 3, h 4, h 5⟩
set_option maxHeartbeats 16000000 in
set_option maxRecDepth 100000 in
theorem writeLaw_bad (hCF : CheckFM) (v : MsV) (a : Option Addr) (n c : Nat) (l : List Rd) (w : World) (hM : MsIn w v) (hS : SizesAt w) (hE : chkM v.m ≠ 0) :
    Calls Tryz.prog 3 #[msV v, .slice a n c] w fun e w' => e = .returned (.bool true) ∧ Below w.heap.size w w' := by
  have HB0 := Hid.mk (ms_box w v)
  have HA0 := Hid.mk (MsAt.box w v)
  have HME := Hid.mk (fun W (h : Below w.heap.size w W) => meant_any W (hS.kept h))
  have HCV := Hid.mk (fun W (h : Below w.heap.size w W) => checkMessage_any hCF v W (hM.kept h))
  have HWB := Hid.mk (fun W (h : Below w.heap.size w W) => mwrite_bad v a n c l 0 [] W (hM.kept h) (hS.kept h) hE)
  have HR : Hid (writeE v.m l = chkM v.m) := Hid.mk (by unfold writeE; rw [if_pos hE])
  rw [HR.out] at HWB
  have HNF := Hid.mk (fun W => noFrame_zero W)
  clear hM hS hCF HR
  generalize chkM v.m = VE at *
  obtain ⟨⟨mid, mlo, mnm, size, mch, sigs⟩, ma, mn, mcap⟩ := v
  unfold msC at HB0 HA0
  unfold msV at HCV HWB ⊢
  unfold frameV at HNF
  simp only at HB0 HA0 HCV HWB HNF ⊢
  obtain ⟨m0, m1, m2, m3, m4, m5⟩ := HA0.out
  simp only at m0 m1 m2 m3 m4 m5
  have hne : (VE != 0) = true := by simpa using hE
  have HE := Hid.mk hE
  clear hE
  go_enter Tryz.func3, Tryz.ntmps3
  go_wp2_with fail
  refine (HWB.out _ HB0.out).mono ?_
  rintro e w1 ⟨hb1, hcase⟩
  rcases hcase with ⟨-, rfl⟩ | ⟨hz, -⟩
  case inr => exact absurd hz HE.out
  have HX := Hid.mk (awB1 w1 (.cells #[.int .i64 0, .bool false, .bool false, .bool false, .int .i64 0, .slice none 0 0] 28))
  have HB1 := Hid.mk (bl2 HB0.out (bl2 hb1 HX.out))
  have HA1 := Hid.mk ((HA0.out.kept hb1).kept HX.out)
  have HX1 := Hid.mk (fv_new w1 0 false none 0 0)
  obtain ⟨t0, t1, t2, t3, t4, t5⟩ := HA1.out
  simp only at t0 t1 t2 t3 t4 t5
  unfold zF frameV
  clear hb1 HWB m0 m1 m2 m3 m4 m5
  go_wp2_with fail
  refine (HCV.out _ HB1.out).mono ?_
  rintro e w2 ⟨rfl, hb2⟩
  have HB2 := Hid.mk (bl2 HB1.out hb2)
  have HX2 := Hid.mk (HX1.out.kept hb2)
  clear hb2 HCV t0 t1 t2 t3 t4 t5
  go_wp2_with fail
  refine (HME.out _ HB2.out).mono ?_
  rintro e w3 ⟨rfl, hb3⟩
  have HB3 := Hid.mk (bl2 HB2.out hb3)
  have HX3 := Hid.mk (HX2.out.kept hb3)
  clear hb3
  go_wp2_with fail
  refine (HME.out _ HB3.out).mono ?_
  rintro e w4 ⟨rfl, hb4⟩
  have HB4 := Hid.mk (bl2 HB3.out hb4)
  obtain ⟨x0, x1, x2, x3, x4, x5⟩ := HX3.out.kept hb4
  clear hb4
  go_wp2_with fail
  refine (HNF.out _).mono ?_
  rintro e w5 ⟨rfl, hb5⟩
  have HB5 := Hid.mk (bl2 HB4.out hb5)
  clear hb5
  go_wp2_with fail
  go_ret
  exact ⟨rfl, HB5.out⟩
/-- Write's answer, in one form: a frame with its bytes -/
theorem write_form {E : Int} {id : Int} {lo : Bool} {n8 : Nat} {d : List UInt8} {w w' : World} {e : Ending} (h : WriteP E id lo n8 d w e w') :
    ∃ id' lo' a k c, e = .returned (.tuple #[.agg #[.int .i64 id', .bool lo', .bool false, .bool false, .int .i64 0, .slice a k c], .int .i64 E]) ∧ Below w.heap.size w w' ∧ IsBytes w' a k c (if E = 0 then d else []) ∧ id' = (if E = 0 then id else 0) ∧ lo' = (if E = 0 then lo else false) ∧ k = (if E = 0 then n8 else 0) := by
  obtain ⟨hb, hcase⟩ := h
  rcases hcase with ⟨hne, rfl⟩ | ⟨rfl, a, c, rfl, hB⟩
  · exact ⟨0, false, none, 0, 0, rfl, hb, by rw [if_neg hne]; exact nilBytesN w', by rw [if_neg hne], by rw [if_neg hne], by rw [if_neg hne]⟩
  · exact ⟨id, lo, a, n8, c, rfl, hb, by rw [if_pos rfl]; exact hB, by rw [if_pos rfl], by rw [if_pos rfl], by rw [if_pos rfl]⟩
set_option maxHeartbeats 16000000 in
set_option maxRecDepth 100000 in
theorem writeLaw_ok (hCF : CheckFM) (v : MsV) (a : Option Addr) (n c : Nat) (l : List Rd) (w : World) (hM : MsIn w v) (hS : SizesAt w) (hF : IsRds w a n c l) (hnm : ∀ r ∈ l, r.nm.size ≤ maxLen) (hE : chkM v.m = 0) :
    Calls Tryz.prog 3 #[msV v, .slice a n c] w fun e w' => e = .returned (.bool true) ∧ Below w.heap.size w w' := by
  have hO := chkM_ok hE
  obtain ⟨n8, hn8⟩ : ∃ n8 : Nat, v.m.size = n8 := ⟨v.m.size.toNat, by have := hO.size0; omega⟩
  have HB0 := Hid.mk (ms_box w v)
  have HA0 := Hid.mk (MsAt.box w v)
  have HME := Hid.mk (fun W (h : Below w.heap.size w W) => meant_any W (hS.kept h))
  have hCV := fun W (h : Below w.heap.size w W) => checkMessage_any hCF v W (hM.kept h)
  rw [hE] at hCV
  have HCV := Hid.mk hCV
  have HWO := Hid.mk (fun W (h : Below w.heap.size w W) => (mwrite_ok v a n c l n8 W (hM.kept h) (hS.kept h) (hF.kept h) hnm hE hn8).mono (fun e w' h' => write_form h'))
  have HWT := Hid.mk (fun W (h : Below w.heap.size w W) => (written_any v a n c l n8 W (hM.kept h) (hF.kept h) hE hn8).mono (fun e w' h' => write_form h'))
  clear hM hS hCF hCV hF hnm hO hE hn8
  generalize writeE v.m l = WE at *
  generalize (fillE (putW l) v.m).2 = FD at *
  generalize (if WE = 0 then FD else []) = FX at *
  generalize (if WE = 0 then v.m.id else 0) = ID at *
  generalize (if WE = 0 then v.m.lo else false) = LO at *
  generalize (if WE = 0 then n8 else 0) = NN at *
  have HSF := Hid.mk (fun W a1 c1 a2 c2 (h1 : IsBytes W a1 NN c1 FX) (h2 : IsBytes W a2 NN c2 FX) => sameFrame_true ⟨ID, LO, false, false, 0, FX⟩ a1 a2 NN c1 NN c2 W h1 h2)
  obtain ⟨⟨mid, mlo, mnm, size, mch, sigs⟩, ma, mn, mcap⟩ := v
  unfold msC at HB0 HA0
  unfold msV at HCV HWO HWT ⊢
  unfold frameV at HSF
  simp only at HB0 HA0 HCV HWO HWT HSF ⊢
  obtain ⟨m0, m1, m2, m3, m4, m5⟩ := HA0.out
  simp only at m0 m1 m2 m3 m4 m5
  go_enter Tryz.func3, Tryz.ntmps3
  go_wp2_with fail
  refine (HWO.out _ HB0.out).mono ?_
  rintro e w1 ⟨i1, l1, a1, k1, c1, rfl, hb1, hB1, hi1, hl1, hk1⟩
  subst hi1
  subst hl1
  subst hk1
  have HX := Hid.mk (awB1 w1 (.cells #[.int .i64 i1, .bool l1, .bool false, .bool false, .int .i64 0, .slice a1 k1 c1] 28))
  have HB1 := Hid.mk (bl2 HB0.out (bl2 hb1 HX.out))
  have HA1 := Hid.mk ((HA0.out.kept hb1).kept HX.out)
  have HX1 := Hid.mk (fv_new w1 i1 l1 a1 k1 c1)
  have HY1 := Hid.mk (isBytes_below hB1 HX.out)
  obtain ⟨t0, t1, t2, t3, t4, t5⟩ := HA1.out
  simp only at t0 t1 t2 t3 t4 t5
  clear hb1 hB1 HWO m0 m1 m2 m3 m4 m5 HX
  go_wp2_with fail
  refine (HCV.out _ HB1.out).mono ?_
  rintro e w2 ⟨rfl, hb2⟩
  have HB2 := Hid.mk (bl2 HB1.out hb2)
  have HX2 := Hid.mk (HX1.out.kept hb2)
  have HA2 := Hid.mk (HA1.out.kept hb2)
  have HY2 := Hid.mk (isBytes_below HY1.out hb2)
  clear hb2 HCV t0 t1 t2 t3 t4 t5
  go_wp2_with fail
  refine (HME.out _ HB2.out).mono ?_
  rintro e w3 ⟨rfl, hb3⟩
  have HB3 := Hid.mk (bl2 HB2.out hb3)
  have HX3 := Hid.mk (HX2.out.kept hb3)
  have HA3 := Hid.mk (HA2.out.kept hb3)
  have HY3 := Hid.mk (isBytes_below HY2.out hb3)
  clear hb3
  obtain ⟨t0, t1, t2, t3, t4, t5⟩ := HA3.out
  simp only at t0 t1 t2 t3 t4 t5
  go_wp2_with fail
  refine (HWT.out _ HB3.out).mono ?_
  rintro e w4 ⟨i4, l4, a4, k4, c4, rfl, hb4, hB4, hi4, hl4, hk4⟩
  subst hi4
  subst hl4
  subst hk4
  have HZ := Hid.mk (awB1 w4 (.cells #[.int .i64 i4, .bool l4, .bool false, .bool false, .int .i64 0, .slice a4 k4 c4] 28))
  have HB4 := Hid.mk (bl2 HB3.out (bl2 hb4 HZ.out))
  have HY4 := Hid.mk (isBytes_below HY3.out (bl2 hb4 HZ.out))
  have HZ4 := Hid.mk (isBytes_below hB4 HZ.out)
  obtain ⟨x0, x1, x2, x3, x4, x5⟩ := (HX3.out.kept hb4).kept HZ.out
  obtain ⟨z0, z1, z2, z3, z4, z5⟩ := fv_new w4 i4 l4 a4 k4 c4
  clear hb4 hB4 HWT t0 t1 t2 t3 t4 t5
  go_wp2_with fail
  refine (HSF.out _ _ _ _ _ HY4.out HZ4.out).mono ?_
  rintro e w5 ⟨rfl, hb5⟩
  have HB5 := Hid.mk (bl2 HB4.out hb5)
  clear hb5
  go_wp2_with fail
  go_ret
  exact ⟨rfl, HB5.out⟩
end Bw
namespace messageWrite
open Bw
theorem walk (v : MsV) (a : Option Addr) (n c : Nat) (l : List Rd) (w : World) (hM : MsIn w v) (hF : IsRds w a n c l) (hnm : ∀ r ∈ l, r.nm.size ≤ maxLen) (hL : laidMet Tryz.prog Rows.messageWriteRow.laid w) :
    Calls Tryz.prog 3 #[msV v, .slice a n c] w fun e w' => e = .returned (.bool true) ∧ Below w.heap.size w w' := by
  have hS := sizes_of hL (by simp [Rows.messageWriteRow])
  by_cases hE : chkM v.m = 0
  · exact writeLaw_ok checkFrame_any v a n c l w hM hS hF hnm hE
  · exact writeLaw_bad checkFrame_any v a n c l w hM hS hE
end messageWrite
end Go.Proofs.YtjgliinpaadbnaaGreatDoor
