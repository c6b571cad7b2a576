/- Joined out of our texts: WireIdx, NumRow, WEach, FrName, FrNamed, EachName, WireLeast, StrRow, StrIdx. -/
import Derived.Test.YthdhhmflfdbkhaaDoorLawWireFirstPAB
import Derived.Test.YthdhhmflfdbkhaaDoorBase8
import Derived.Test.YthdhhmflfdbkhaaDoorLawWireFirstPAA
/- Where something stands first in a list, and whether it stands there once: plain facts on lists; of no program. -/
namespace Go.Proofs.YthdhhmflfdbkhaaDoor
namespace Bw
open Bm

/-- where v stands first, or -1 -/
def idxG {α : Type} [DecidableEq α] : List α → α → Int
  | [], _ => -1
  | x :: xs, v => if x = v then 0 else if idxG xs v = -1 then -1 else idxG xs v + 1
theorem idxG_ge {α : Type} [DecidableEq α] (xs : List α) (v : α) : -1 ≤ idxG xs v ∧ idxG xs v < xs.length := by
  induction xs with
  | nil => simp [idxG]
  | cons x xs ih =>
    rw [idxG, List.length_cons]
    split
    · omega
    · split <;> omega
theorem idxG_app {α : Type} [DecidableEq α] (a b : List α) (v : α) (h : v ∉ a) : idxG (a ++ b) v = if idxG b v = -1 then -1 else idxG b v + a.length := by
  induction a with
  | nil => simp
  | cons x a ih =>
    have h1 : x ≠ v := fun e => h (by rw [e]; exact List.mem_cons_self)
    have h2 : v ∉ a := fun e => h (List.mem_cons_of_mem _ e)
    have hb := idxG_ge b v
    rw [List.cons_append, idxG, if_neg h1, ih h2, List.length_cons]
    split
    · simp
    · rw [if_neg (by omega)]; omega
theorem idxG_at {α : Type} [DecidableEq α] (a b : List α) (v : α) (h : v ∉ a) : idxG (a ++ v :: b) v = a.length := by
  rw [idxG_app a _ v h, idxG, if_pos rfl]; simp
theorem idxG_none {α : Type} [DecidableEq α] (a : List α) (v : α) (h : v ∉ a) : idxG a v = -1 := by
  have := idxG_app a [] v h
  simpa [idxG] using this
theorem firstG {α : Type} [DecidableEq α] {xs : List α} {v : α} (h : v ∈ xs) : ∃ a b, xs = a ++ v :: b ∧ v ∉ a := by
  induction xs with
  | nil => cases h
  | cons x xs ih =>
    by_cases e : x = v
    · exact ⟨[], xs, by rw [e]; rfl, by simp⟩
    · have h' : v ∈ xs := by
        rcases List.mem_cons.1 h with h | h
        · exact absurd h.symm e
        · exact h
      obtain ⟨a, b, rfl, ha⟩ := ih h'
      exact ⟨x :: a, b, rfl, by
        intro hm
        rcases List.mem_cons.1 hm with hm | hm
        · exact e hm.symm
        · exact ha hm⟩
theorem idxG_hit {α : Type} [DecidableEq α] (xs : List α) (v d : α) (j : Nat) (hj : j < xs.length) (h : v ∉ xs.take j) (he : v = xs.getD j d) : idxG xs v = j := by
  have e1 : xs = xs.take j ++ xs.drop j := (List.take_append_drop j xs).symm
  have e2 : xs.drop j = v :: xs.drop (j + 1) := by rw [List.drop_eq_getElem_cons hj, he]; simp [List.getD, hj]
  have e3 := idxG_at (xs.take j) (xs.drop (j + 1)) v h
  rw [← e2, ← e1, List.length_take] at e3
  omega
theorem idxG_next {α : Type} [DecidableEq α] (xs : List α) (v d : α) (j : Nat) (hj : j < xs.length) (h : v ∉ xs.take j) (he : v ≠ xs.getD j d) : v ∉ xs.take (j + 1) := by
  rw [List.take_succ_eq_append_getElem hj, List.mem_append, List.mem_singleton]
  rintro (h' | h')
  · exact h h'
  · exact he (by rw [h']; simp [List.getD, hj])
theorem idxG_pos {α : Type} [DecidableEq α] (xs : List α) (v : α) : 0 ≤ idxG xs v ↔ v ∈ xs := by
  by_cases h : v ∈ xs
  · obtain ⟨a, b, rfl, ha⟩ := firstG h
    rw [idxG_at a b v ha]; simp [h]
  · rw [idxG_none xs v h]; simp [h]
/-- what 'only' tells: the error, and the place -/
def onlyE {α : Type} [DecidableEq α] (l : List α) (x : α) : Int := if idxG l x < 0 then 8 else if x ∈ l.drop ((idxG l x).toNat + 1) then 9 else 0
def onlyN {α : Type} [DecidableEq α] (l : List α) (x : α) : Int := if onlyE l x = 0 then idxG l x else 0
theorem onlyE_mem {α : Type} [DecidableEq α] {l : List α} {x : α} (h : x ∈ l) : onlyE l x = if 1 < l.count x then 9 else 0 := by
  obtain ⟨a, b, rfl, ha⟩ := firstG h
  unfold onlyE
  have hc : (a ++ x :: b).count x = b.count x + 1 := by
    rw [List.count_append, List.count_cons_self, List.count_eq_zero.2 ha]; omega
  have hd : (a ++ x :: b).drop (((a.length : Nat) : Int).toNat + 1) = b := by
    rw [Int.toNat_natCast, ← List.drop_drop, List.drop_left]; rfl
  rw [idxG_at a b x ha, if_neg (by omega), hd, hc]
  by_cases hb : x ∈ b
  · rw [if_pos hb, if_pos (by have := List.count_pos_iff.2 hb; omega)]
  · rw [if_neg hb, if_neg (by rw [List.count_eq_zero.2 hb]; omega)]
/-- the rows' least, told by where all others part from it -/
theorem dif_count {rows : List (List UInt8)} (hA : Apart rows) {best : List UInt8} (hb : best ∈ rows) : ((rows.map fun r => dif r best).count (-1)) = rows.count best := by
  have key : ∀ l : List (List UInt8), (∀ r ∈ l, r ∈ rows) → (l.map fun r => dif r best).count (-1) = l.count best := by
    intro l
    induction l with
    | nil => intro _; rfl
    | cons r l ih =>
      intro h
      have hr := h r List.mem_cons_self
      have := ih (fun x hx => h x (List.mem_cons_of_mem _ hx))
      rw [List.map_cons]
      by_cases e : r = best
      · subst e
        rw [List.count_cons_self, dif_self, List.count_cons_self, this]
      · have hd : dif r best ≠ -1 := fun hx => e ((dif_neg hA hr hb).1 hx)
        rw [List.count_cons_of_ne hd, List.count_cons_of_ne e, this]
  exact key rows (fun _ h => h)
theorem dif_idx {rows : List (List UInt8)} (hA : Apart rows) {best : List UInt8} (hb : best ∈ rows) : idxG (rows.map fun r => dif r best) (-1) = idxG rows best := by
  have key : ∀ l : List (List UInt8), (∀ r ∈ l, r ∈ rows) → idxG (l.map fun r => dif r best) (-1) = idxG l best := by
    intro l
    induction l with
    | nil => intro _; rfl
    | cons r l ih =>
      intro h
      have hr := h r List.mem_cons_self
      have := ih (fun x hx => h x (List.mem_cons_of_mem _ hx))
      rw [List.map_cons, idxG, idxG, this]
      by_cases e : r = best
      · subst e
        rw [dif_self, if_pos rfl, if_pos rfl]
      · have hd : dif r best ≠ -1 := fun hx => e ((dif_neg hA hr hb).1 hx)
        rw [if_neg hd, if_neg e]
  exact key rows (fun _ h => h)
theorem dif_mem {rows : List (List UInt8)} {best : List UInt8} (hb : best ∈ rows) : (-1 : Int) ∈ rows.map fun r => dif r best := List.mem_map.2 ⟨best, hb, dif_self best⟩
end Bw
end Go.Proofs.YthdhhmflfdbkhaaDoor

/- What slices.Index and slices.Contains answer of numbers. -/
namespace Go.Proofs.YthdhhmflfdbkhaaDoor
open Go.ChangeShapes Go.WideShapes Go.ChangeAt Go.RowKit
namespace Bw
open Bm

/-- these texts lie in block g, from off on -/
def StrsAt (w : World) (g off : Nat) (rows : List (List UInt8)) : Prop := ∀ i, i < rows.length → w.cell? ⟨g, off + i, none⟩ = some (.string ⟨(rows.getD i []).toArray⟩)
/-- these numbers lie in block g, from off on -/
def NumsAt (w : World) (g off : Nat) (xs : List Int) : Prop := ∀ i, i < xs.length → w.cell? ⟨g, off + i, none⟩ = some (.int .i64 (xs.getD i 0))
theorem txt_eq (a b : List UInt8) : ((ByteArray.mk a.toArray).toList == (ByteArray.mk b.toArray).toList) = decide (a = b) := by
  rw [ByteArray.toList_eq, ByteArray.toList_eq]
  by_cases h : a = b
  · subst h; simp
  · rw [decide_eq_false h]; simpa using h

set_option maxHeartbeats 1000000 in
theorem indexN (g off n c : Nat) (xs : List Int) (v : Int) (w : World) (hn : xs.length = n) (hm : n ≤ 1000) (hx : NumsAt w g off xs) :
    Calls Tryd.prog 43 #[.slice (some ⟨g, off, none⟩) n c, .int .i64 v] w fun e w' => e = .returned (.int .i64 (idxG xs v)) ∧ w' = w := by
  have HX := Hid.mk hx
  have HN := Hid.mk hn
  clear hx hn
  go_enter Tryd.func43, Tryd.ntmps43
  go_wp2_with fail
  go_loopw [8] (fun i wr => ∃ j : Nat, j ≤ n ∧ i = .int .i64 j ∧ Hid (v ∉ xs.take j) ∧ wr = w) (fun i _ => n - (intOf i).toNat)
  case atStart => exact ⟨0, Nat.zero_le _, rfl, Hid.mk (by simp), rfl⟩
  case round =>
    obtain ⟨j, hj, rfl, HV, hwr⟩ := hrel
    subst hwr
    by_cases hlt : j < n
    · have hc := HX.out j (by rw [HN.out]; exact hlt)
      have hlt' : (j : Int) < (n : Int) := by omega
      have hjl : j < xs.length := by rw [HN.out]; exact hlt
      by_cases he : v = xs.getD j 0
      · have hb : (v == xs.getD j 0) = true := by rw [← he]; simp
        have HRES := Hid.mk (idxG_hit xs v 0 j hjl HV.out he)
        generalize xs.getD j 0 = y at *
        clear hjl he
        go_wp2_with fail
        go_ret
        exact ⟨by rw [HRES.out]; rfl, rfl⟩
      · have hb : (v == xs.getD j 0) = false := by simpa using he
        have HNX := Hid.mk (idxG_next xs v 0 j hjl HV.out he)
        generalize xs.getD j 0 = y at *
        clear hjl he
        go_wp2_with fail
        go_roundw
        case rel => exact ⟨j + 1, by omega, by go_num, HNX, by first | rfl | trivial⟩
        case measure => simp [intOf]; omega
    · have e : j = n := by omega
      subst e
      have HRES := Hid.mk (idxG_none xs v (by
        have := HV.out
        rwa [← HN.out, List.take_length] at this))
      go_wp2_with fail
      go_ret
      exact ⟨by rw [HRES.out]; rfl, rfl⟩
set_option maxHeartbeats 1000000 in
theorem containsN (g off n c : Nat) (xs : List Int) (v : Int) (w : World) (hn : xs.length = n) (hm : n ≤ 1000) (hx : NumsAt w g off xs) :
    Calls Tryd.prog 23 #[.slice (some ⟨g, off, none⟩) n c, .int .i64 v] w fun e w' => e = .returned (.bool (decide (v ∈ xs))) ∧ w' = w := by
  have h1 := indexN g off n c xs v w hn hm hx
  have he : decide (0 ≤ idxG xs v) = decide (v ∈ xs) := by rw [decide_eq_decide]; exact idxG_pos xs v
  have HE := Hid.mk he
  generalize idxG xs v = q at *
  clear he hn hx
  go_enter Tryd.func23, Tryd.ntmps23
  go_wp2_with fail
  refine h1.mono ?_
  rintro e w1 ⟨rfl, hw1⟩
  subst hw1
  go_wp2_with fail
  go_ret
  exact ⟨by rw [← HE.out]; rfl, rfl⟩
end Bw
end Go.Proofs.YthdhhmflfdbkhaaDoor

/- Texts as cells; the first error of frames. -/
namespace Go.Proofs.YthdhhmflfdbkhaaDoor
open Go.ChangeShapes Go.WideShapes Go.ChangeAt Go.RowKit
namespace Bw
open Bm Cm

theorem info_str : (Tryd.prog.info? 9).map (fun i => (i.zero, i.size, i.bytes)) = some (some (.string ⟨#[]⟩), 1, 16) := by kernel_rfl
/-- texts as cells -/
def strC (l : List (List UInt8)) : List Value := l.map fun r => .string ⟨r.toArray⟩
theorem strC_append (a b : List (List UInt8)) : strC (a ++ b) = strC a ++ strC b := by simp [strC]
theorem strC_length (l : List (List UInt8)) : (strC l).length = l.length := by simp [strC]
theorem strs_of {w : World} {base g n cap : Nat} {l : List (List UInt8)} (h : w.ownsRow base 9 1 (.slice (some ⟨g, 0, none⟩) n cap) n (strC l)) : StrsAt w g 0 l := by
  intro i hi
  have hl : (strC l).length = n * 1 := h.1
  rw [strC_length] at hl
  rw [Nat.zero_add, h.cellAt i (by omega)]
  simp [strC, List.getD, hi]
/-- the first error of frames -/
def firE : List Fr → Int
  | [] => 0
  | f :: l => if frE f = 0 then firE l else frE f
theorem firE_at : ∀ (a : List Fr) (f : Fr) (b : List Fr), (∀ g ∈ a, frE g = 0) → frE f ≠ 0 → firE (a ++ f :: b) = frE f
  | [], f, b, _, h => by rw [List.nil_append, firE, if_neg h]
  | g :: a, f, b, ha, h => by rw [List.cons_append, firE, if_pos (ha g List.mem_cons_self), firE_at a f b (fun x hx => ha x (List.mem_cons_of_mem _ hx)) h]
theorem firE_zero : ∀ (l : List Fr), firE l = 0 ↔ ∀ f ∈ l, frE f = 0
  | [] => by simp [firE]
  | f :: l => by
    rw [firE]
    by_cases h : frE f = 0
    · rw [if_pos h, firE_zero l]; simp [h]
    · rw [if_neg h]; simp [h]
theorem firE_take (l : List FrV) (k : Nat) (hk : k < l.length) (h : ∀ v ∈ l.take k, frE v.f = 0) (hE : frE l[k].f ≠ 0) : firE (l.map (·.f)) = frE l[k].f := by
  have e : l = l.take k ++ l[k] :: l.drop (k + 1) := by rw [List.getElem_cons_drop, List.take_append_drop]
  have e2 : l.map (·.f) = (l.take k).map (·.f) ++ l[k].f :: (l.drop (k + 1)).map (·.f) := by
    have := congrArg (List.map (·.f)) e
    rw [List.map_append, List.map_cons] at this
    exact this
  rw [e2]
  refine firE_at _ _ _ (fun g hg => ?_) hE
  obtain ⟨v, hv, rfl⟩ := List.mem_map.1 hg
  exact h v hv
theorem take_all {l : List FrV} {k : Nat} (hk : k < l.length) (h : ∀ v ∈ l.take k, frE v.f = 0) (hE : frE l[k].f = 0) : ∀ v ∈ l.take (k + 1), frE v.f = 0 := by
  intro v hv
  rw [List.take_succ_eq_append_getElem hk, List.mem_append, List.mem_singleton] at hv
  rcases hv with hv | rfl
  · exact h v hv
  · exact hE
theorem add_next (x : Addr) (m j : Nat) : x.add (m + (j + 1)) = ⟨(x.add m).block, (x.add m).off + (j + 1), none⟩ := by
  unfold Addr.add
  by_cases h : m = 0
  · subst h; simp
  · simp [h]; omega
theorem IsFrames.kept {w w' : World} {a : Option Addr} {n cap : Nat} {l : List FrV} (h : IsFrames w a n cap l) (hb : Below w.heap.size w w') : IsFrames w' a n cap l :=
  ⟨h.len, h.le, h.max, h.none, fun x hx i hi k hk => cell_kept hb (h.cell x hx i hi k hk), fun i hi => isBytes_below (h.bytes i hi) hb⟩
end Bw
end Go.Proofs.YthdhhmflfdbkhaaDoor

/- What frame.name and form answer. -/
namespace Go.Proofs.YthdhhmflfdbkhaaDoor
open Go.ChangeShapes Go.WideShapes Go.ChangeAt Go.RowKit
namespace Bw
open Bm Cm

theorem head_take (n : Nat) : bitsHead (n / 262144) 11 11 = (bitsHead n 29 29).take 11 := by
  unfold bitsHead
  rw [← List.map_take, List.take_range]
  apply List.map_congr_left
  intro i hi
  have hi' : i < 11 := by simpa using hi
  unfold bitAt
  have e : n / 262144 / 2 ^ (11 - 1 - i) = n / 2 ^ (29 - 1 - i) := by
    rw [Nat.div_div_eq_div_mul, show (262144 : Nat) = 2 ^ 18 by rfl, ← Nat.pow_add, show 18 + (11 - 1 - i) = 29 - 1 - i by omega]
  rw [e]
theorem head_drop (n : Nat) : bitsHead (n % 262144) 18 18 = (bitsHead n 29 29).drop 11 := by
  apply List.ext_getElem
  · simp [bitsHead_length]
  intro i h1 h2
  have hi : i < 18 := by simpa [bitsHead_length] using h1
  simp only [bitsHead, List.getElem_map, List.getElem_drop, List.getElem_range]
  unfold bitAt
  have e : n % 262144 / 2 ^ (18 - 1 - i) % 2 = n / 2 ^ (29 - 1 - (11 + i)) % 2 := by
    rw [show 29 - 1 - (11 + i) = 18 - 1 - i by omega, show (262144 : Nat) = 2 ^ 18 by rfl]
    have h := Nat.testBit_mod_two_pow n 18 (18 - 1 - i)
    have hd : decide (18 - 1 - i < 18) = true := by simp; omega
    rw [hd, Bool.true_and, Nat.testBit_eq_decide_div_mod_eq, Nat.testBit_eq_decide_div_mod_eq] at h
    have h' : (n % 2 ^ 18 / 2 ^ (18 - 1 - i) % 2 = 1) ↔ (n / 2 ^ (18 - 1 - i) % 2 = 1) := by simpa using h
    omega
  rw [e]
theorem and_low (n : Nat) (h : n < 2 ^ 29) : bits .and .i64 (n : Int) 262143 = ((n % 262144 : Nat) : Int) := by
  have := bits_mask .i64 63 (by decide) (fun n h0 h1 => by rw [IntKind.wrap_i64]; omega) 18 (by decide) (n : Int) (by omega) (by omega)
  simpa using this

set_option maxHeartbeats 4000000 in
theorem name_shortP (n : Nat) (fa re : Bool) (sz : Int) (a : Option Addr) (len cap : Nat) (w : World) (hn : n < 2 ^ 11) :
    Calls Tryd.prog 41 #[frameV n false fa re sz a len cap] w fun e w' => e = .returned (.string ⟨(bitsHead n 11 11 ++ [bitB re, 48]).toArray⟩) ∧ Below w.heap.size w w' := by
  have hB := below_box w n false fa re sz a len cap
  have hK := FrAt.box w n false fa re sz a len cap
  unfold frameC at hB hK
  unfold frameV
  have hr := fun W => row_ok n 11 W (by omega) hn
  have hS := mk_list (bitsHead n 11 11)
  generalize ByteArray.mk (bitsHead n 11 11).toArray = S at *
  have hSs : S.size ≤ 11 := by rw [ba_size hS, bitsHead_length]; exact Nat.le_refl _
  have hBs : (ByteArray.mk #[bitB re]).size = 1 := rfl
  have hbl : (ByteArray.mk #[bitB re]).data.toList = [bitB re] := rfl
  have hfb := fun W => frBit_any re W
  generalize ByteArray.mk #[bitB re] = B at *
  have hBm : B.size ≤ 1 := by omega
  have HSL := Hid.mk hS
  have HR := Hid.mk hr
  have HBL := Hid.mk hbl
  have HFB := Hid.mk hfb
  have HK := Hid.mk hK
  clear hr hn hS hbl hfb hBs hK
  go_enter Tryd.func41, Tryd.ntmps41
  go_wp2_with fail
  refine (HR.out _).mono ?_
  rintro e w1 ⟨rfl, hb1⟩
  have hbel1 := bl2 hB hb1
  have k3 := (HK.out.kept hb1).c3
  clear hB hb1 HR HK
  go_wp2_with fail
  refine (HFB.out _).mono ?_
  rintro e w2 ⟨rfl, hw⟩
  subst hw
  go_wp2_with fail
  go_ret
  exact ⟨ret_str1 (by rw [ba_cat, ba_cat, HSL.out, HBL.out]; simp), hbel1⟩
set_option maxHeartbeats 4000000 in
theorem name_longP (n : Nat) (fa re : Bool) (sz : Int) (a : Option Addr) (len cap : Nat) (w : World) (hn : n < 2 ^ 29) :
    Calls Tryd.prog 41 #[frameV n true fa re sz a len cap] w fun e w' => e = .returned (.string ⟨((bitsHead n 29 29).take 11 ++ [49, 49] ++ (bitsHead n 29 29).drop 11 ++ [bitB re]).toArray⟩) ∧ Below w.heap.size w w' := by
  have hB := below_box w n true fa re sz a len cap
  have hK := FrAt.box w n true fa re sz a len cap
  unfold frameC at hB hK
  unfold frameV
  have hr := fun W => row_ok (n / 262144) 11 W (by omega) (by omega)
  have hr2 := fun W => row_ok (n % 262144) 18 W (by omega) (by omega)
  have e1 : (n : Int) / 262144 = ((n / 262144 : Nat) : Int) := by omega
  have e2 := and_low n hn
  rw [← e1] at hr
  rw [← e2] at hr2
  have hS := mk_list (bitsHead (n / 262144) 11 11)
  generalize ByteArray.mk (bitsHead (n / 262144) 11 11).toArray = S at *
  have hSs : S.size ≤ 11 := by rw [ba_size hS, bitsHead_length]; exact Nat.le_refl _
  have hS2 := mk_list (bitsHead (n % 262144) 18 18)
  generalize ByteArray.mk (bitsHead (n % 262144) 18 18).toArray = S2 at *
  have hSs2 : S2.size ≤ 18 := by rw [ba_size hS2, bitsHead_length]; exact Nat.le_refl _
  have hBs : (ByteArray.mk #[bitB re]).size = 1 := rfl
  have hbl : (ByteArray.mk #[bitB re]).data.toList = [bitB re] := rfl
  have hfb := fun W => frBit_any re W
  generalize ByteArray.mk #[bitB re] = B at *
  have hBm : B.size ≤ 1 := by omega
  rw [head_take] at hS
  rw [head_drop] at hS2
  have HSL := Hid.mk hS
  have HSL2 := Hid.mk hS2
  have HR := Hid.mk hr
  have HR2 := Hid.mk hr2
  have HBL := Hid.mk hbl
  have HFB := Hid.mk hfb
  have HK := Hid.mk hK
  clear hr hr2 hn hS hS2 hbl hfb hBs hK e1 e2
  go_enter Tryd.func41, Tryd.ntmps41
  go_wp2_with fail
  refine (HR.out _).mono ?_
  rintro e w1 ⟨rfl, hb1⟩
  have hbel1 := bl2 hB hb1
  have k0 := (HK.out.kept hb1).c0
  have HK1 := Hid.mk (HK.out.kept hb1)
  clear hB hb1 HR HK
  go_wp2_with fail
  refine (HR2.out _).mono ?_
  rintro e w2 ⟨rfl, hb2⟩
  have hbel2 := bl2 hbel1 hb2
  have k3 := (HK1.out.kept hb2).c3
  clear hbel1 hb2 HR2 HK1 k0
  go_wp2_with fail
  refine (HFB.out _).mono ?_
  rintro e w3 ⟨rfl, hw⟩
  subst hw
  go_wp2_with fail
  go_ret
  exact ⟨ret_str1 (by rw [ba_cat, ba_cat, ba_cat, HSL.out, HSL2.out, HBL.out]), hbel2⟩
theorem name_any (f : Fr) (a : Option Addr) (len cap : Nat) (w : World) (h0 : 0 ≤ f.id) (h1 : f.id ≤ topI f.lo) :
    Calls Tryd.prog 41 #[frameV f.id f.lo f.fa f.re f.sz a len cap] w fun e w' => e = .returned (.string ⟨(nameL f).toArray⟩) ∧ Below w.heap.size w w' := by
  obtain ⟨id, lo, fa, re, sz, dt⟩ := f
  obtain ⟨n, rfl⟩ : ∃ n : Nat, id = (n : Int) := ⟨id.toNat, by simp only at h0; omega⟩
  simp only at h0 h1 ⊢
  cases lo
  · exact name_shortP n fa re sz a len cap w (by simp [topI] at h1; omega)
  · exact name_longP n fa re sz a len cap w (by simp [topI] at h1; omega)

set_option maxHeartbeats 2000000 in
theorem form_any (f : Fr) (a : Option Addr) (len cap : Nat) (w : World) :
    Calls Tryd.prog 52 #[frameV f.id f.lo f.fa f.re f.sz a len cap] w fun e w' => e = .returned (.string ⟨(midL f).toArray⟩) ∧ Below w.heap.size w w' := by
  have hB := below_box w f.id f.lo f.fa f.re f.sz a len cap
  unfold frameC at hB
  unfold frameV midL
  obtain ⟨id, lo, fa, re, sz, dt⟩ := f
  simp only at hB ⊢
  cases fa <;> cases lo
  all_goals focus
    go_enter Tryd.func52, Tryd.ntmps52
    go_wp2_with fail
    go_ret
    exact ⟨rfl, hB⟩
end Bw
end Go.Proofs.YthdhhmflfdbkhaaDoor

/- What frame.Name answers. -/
namespace Go.Proofs.YthdhhmflfdbkhaaDoor
open Go.ChangeShapes Go.WideShapes Go.ChangeAt Go.RowKit
namespace Bw
open Bm Cm

def nameA (f : Fr) : Value := if frE f = 0 then .tuple #[.string ⟨(nameL f).toArray⟩, .int .i64 0] else .tuple #[.string ⟨#[]⟩, .int .i64 (frE f)]
set_option maxHeartbeats 4000000 in
theorem frName_any (f : Fr) (a : Option Addr) (len cap : Nat) (w : World) (hS : SizesAt w) (hl : len ≤ maxLen) (hd : f.dt.length = len) :
    Calls Tryd.prog 21 #[frameV f.id f.lo f.fa f.re f.sz a len cap] w fun e w' => e = .returned (nameA f) ∧ Below w.heap.size w w' := by
  have hB := below_box w f.id f.lo f.fa f.re f.sz a len cap
  have hK := FrAt.box w f.id f.lo f.fa f.re f.sz a len cap
  have hck := frCheck_any f.id f.lo f.fa f.re f.sz a len cap _ (hS.kept hB) hl
  have hE : frEn f.id f.lo f.fa f.re f.sz len = frE f := by unfold frE; rw [hd]
  rw [hE] at hck
  have hnm := fun W h0 h1 => name_any f a len cap W h0 h1
  have hok := fun h => frE_ok (f := f) h
  unfold frameC at hB hK hck
  unfold frameV at hnm hck ⊢
  unfold nameA
  have HK := Hid.mk hK
  have HCK := Hid.mk hck
  have HNM := Hid.mk hnm
  have HOK := Hid.mk hok
  clear hS hl hd hK hck hnm hE hok
  by_cases hE : frE f = 0
  · rw [if_pos hE]
    obtain ⟨q1, q2, -⟩ := HOK.out hE
    have HQ1 := Hid.mk q1
    have HQ2 := Hid.mk q2
    rw [hE] at HCK
    clear hE q1 q2
    go_enter Tryd.func21, Tryd.ntmps21
    go_wp2_with fail
    refine HCK.out.mono ?_
    rintro e w1 ⟨rfl, hb1⟩
    have hbel1 := bl2 hB hb1
    obtain ⟨k0, k1, k2, k3, k4, k5⟩ := HK.out.kept hb1
    clear hB hb1
    go_wp2_with fail
    refine (HNM.out _ HQ1.out HQ2.out).mono ?_
    rintro e w2 ⟨rfl, hb2⟩
    have hbel2 := bl2 hbel1 hb2
    clear hbel1 hb2 k0 k1 k2 k3 k4 k5
    go_wp2_with fail
    go_ret2
    exact ⟨rfl, hbel2⟩
  · rw [if_neg hE]
    have hne : (frE f != 0) = true := by simpa using hE
    generalize frE f = ce at *
    go_enter Tryd.func21, Tryd.ntmps21
    go_wp2_with fail
    refine HCK.out.mono ?_
    rintro e w1 ⟨rfl, hb1⟩
    have hbel1 := bl2 hB hb1
    clear hB hb1
    go_wp2_with fail
    go_ret2
    exact ⟨rfl, hbel1⟩

end Bw
end Go.Proofs.YthdhhmflfdbkhaaDoor

/- What wire.each makes of frames with frame.Name: the rows of all, or the first error. -/
namespace Go.Proofs.YthdhhmflfdbkhaaDoor
open Go.ChangeShapes Go.WideShapes Go.ChangeAt Go.RowKit
namespace Bw
open Bm Cm
set_option maxHeartbeats 4000000 in
set_option maxRecDepth 100000 in
theorem eachName_any (a : Option Addr) (n cap : Nat) (l : List FrV) (w : World) (hS : SizesAt w) (hF : IsFrames w a n cap l) (hn : n ≤ 6) :
    Calls Tryd.prog 20 #[.slice a n cap, .func (.func 21) #[] #[]] w fun e w' =>
      (firE (l.map (·.f)) ≠ 0 → e = .returned (.tuple #[.slice none 0 0, .int .i64 (firE (l.map (·.f)))])) ∧
      (firE (l.map (·.f)) = 0 → ∃ v, e = .returned (.tuple #[v, .int .i64 0]) ∧ w'.ownsRow w.heap.size 9 1 v n (strC (l.map fun v => nameL v.f))) ∧ Below w.heap.size w w' := by
  obtain ⟨i0, hi, hz0, hz1, hz2⟩ := info_parts info_str
  have HF := Hid.mk hF
  have HS := Hid.mk hS

  clear hF hS
  go_enter Tryd.func20, Tryd.ntmps20
  go_wp2_with fail
  go_loopw [6, 13] (fun r i wr => ∃ k : Nat, k ≤ n ∧ i = .int .i64 k ∧ Hid (wr.ownsRow w.heap.size 9 1 r k (strC ((l.take k).map fun v => nameL v.f))) ∧ Hid (∀ v ∈ l.take k, frE v.f = 0) ∧ Hid (Below w.heap.size w wr)) (fun _ i _ => n - (intOf i).toNat)
  case atStart => exact ⟨0, Nat.zero_le _, rfl, Hid.mk (by simpa [strC] using World.ownsRow_nil _ _ _ _), Hid.mk (by simp), Hid.mk (Below.refl _ _)⟩
  case round =>
    obtain ⟨k, hk, rfl, HO, HZ, HB⟩ := hrel
    by_cases hlt : k < n
    · have hlt' : (k : Int) < (n : Int) := by omega
      have hkl : k < l.length := by rw [HF.out.len]; exact hlt
      cases a with
      | none => exact absurd (HF.out.none rfl) (by omega)
      | some x =>
        have cc := fun (j : Nat) (hj : j < 6) => cell_kept HB.out (HF.out.cell x rfl k hkl j hj)
        have hby := isBytes_below (HF.out.bytes k hkl) (show Below w.heap.size w wr from HB.out)
        have hfir := firE_take l k hkl HZ.out
        have hall := take_all hkl HZ.out
        have htk : strC ((l.take (k + 1)).map fun v => nameL v.f) = strC ((l.take k).map fun v => nameL v.f) ++ [.string ⟨(nameL l[k].f).toArray⟩] := by
          rw [List.take_succ_eq_append_getElem hkl, List.map_append, strC_append]; rfl
        generalize l[k] = v at *
        obtain ⟨f, fa, fl, fc⟩ := v
        have c0 := cc 0 (by omega)
        have c1 := cc 1 (by omega)
        have c2 := cc 2 (by omega)
        have c3 := cc 3 (by omega)
        have c4 := cc 4 (by omega)
        have c5 := cc 5 (by omega)
        rw [add_next] at c1 c2 c3 c4 c5
        rw [Nat.add_zero] at c0
        simp only [FrV.cells, List.getElem_cons_zero, List.getElem_cons_succ, Nat.reduceAdd] at c0 c1 c2 c3 c4 c5
        simp only at hby hfir hall htk
        have hbx := below_box wr f.id f.lo f.fa f.re f.sz fa fl fc
        have hby2 := isBytes_below hby hbx
        have hB2 := bl2 HB.out hbx
        have ha := frName_any f fa fl fc _ (HS.out.kept hB2) (Nat.le_trans hby2.2.1 hby2.2.2.1) hby2.1
        have HO2 := Hid.mk (HO.out.alloc (frameC f.id f.lo f.fa f.re f.sz fa fl fc))
        have HB2 := Hid.mk hB2
        have HFI := Hid.mk hfir
        have HAL := Hid.mk hall
        have HTK := Hid.mk htk
        clear cc hfir hall htk hby hby2 hbx hB2
        unfold frameC at ha HO2 HB2
        unfold frameV at ha
        by_cases hE : frE f = 0
        · have hba : nameA f = .tuple #[.string ⟨(nameL f).toArray⟩, .int .i64 0] := by unfold nameA; rw [if_pos hE]
          rw [hba] at ha
          have HA := Hid.mk ha
          have HE := Hid.mk hE
          generalize ByteArray.mk (nameL f).toArray = X at *
          clear ha hE hba
          go_wp2_with fail
          refine HA.out.mono ?_
          rintro e w1 ⟨rfl, hb1⟩
          have HO1 := Hid.mk (ownsRow_below HO2.out hb1)
          have HB1 := Hid.mk (bl2 HB2.out hb1)
          clear hb1 HO2 HB2 HO HB HA
          go_wp2_with (at_builtin; refine wpList_append_own _ rfl (.tmp 26) (.tmp 28) 27 rfl w.heap.size 9 i0 (.string ⟨#[]⟩) 1 16 Tryd.underlying27 hi hz0 hz1 hz2 rfl (by decide) _ _ _ rfl (HO1.out.alloc _) ⟨w1.heap.size, 0, none⟩ 1 1 [Value.string X] rfl rfl (by intro q u hq; match q, hq with | 0, hq => (simp at hq; subst hq; simp [Addr.add])) (by intro u hu; simp at hu; subst hu; rfl) (by unfold maxLen; omega) (by omega) (by have := HB1.out.size; simp; omega) ?_; intro v3 w3 hown3 hgrow3 _)
          have hB3 : Below w.heap.size w w3 := Below.grown (HB1.out.alloc HB1.out.size _) hgrow3 (by have := HB1.out.size; simp; omega) (fun q hq => (HO1.out.lt q hq).1)
          rw [← HTK.out] at hown3
          clear hgrow3
          go_roundw
          case rel => exact ⟨k + 1, by omega, by go_num, Hid.mk hown3, Hid.mk (HAL.out HE.out), Hid.mk hB3⟩
          case measure => simp [intOf]; omega
        · have hba : nameA f = .tuple #[.string ⟨#[]⟩, .int .i64 (frE f)] := by unfold nameA; rw [if_neg hE]
          rw [hba] at ha
          have HA := Hid.mk ha
          have HE := Hid.mk (HFI.out hE)
          have HN := Hid.mk hE
          have hne : (frE f != 0) = true := by simpa using hE
          clear ha hE hba
          generalize frE f = ce at *
          go_wp2_with fail
          refine HA.out.mono ?_
          rintro e w1 ⟨rfl, hb1⟩
          have HB1 := Hid.mk (bl2 HB2.out hb1)
          clear hb1 HO2 HB2 HO HB HA
          go_wp2_with fail
          go_ret2
          exact ⟨fun _ => by rw [HE.out]; rfl, fun h => absurd (HE.out.symm.trans h) HN.out, HB1.out⟩
    · have e : k = n := by omega
      subst e
      have hz := HZ.out
      rw [List.take_of_length_le (by have := HF.out.len; omega)] at hz
      have hfz : firE (l.map (·.f)) = 0 := (firE_zero _).2 (fun f hf => by
        obtain ⟨v, hv, rfl⟩ := List.mem_map.1 hf
        exact hz v hv)
      have hown := HO.out
      rw [List.take_of_length_le (by have := HF.out.len; omega)] at hown
      have HOW := Hid.mk hown
      have HFZ := Hid.mk hfz
      clear hown hfz hz
      go_wp2_with fail
      go_ret2
      exact ⟨fun h => absurd HFZ.out h, fun _ => ⟨_, rfl, HOW.out⟩, HB.out⟩
end Bw
end Go.Proofs.YthdhhmflfdbkhaaDoor

/- The least of several texts: plain facts on lists; of no program. -/
namespace Go.Proofs.YthdhhmflfdbkhaaDoor
namespace Bw
open Bm
theorem less_irr : ∀ a : List UInt8, Op.bytesLess a a = false
  | [] => rfl
  | x :: a => by simp [Op.bytesLess, less_irr a]
theorem less_tot : ∀ a b : List UInt8, Op.bytesLess a b = false → Op.bytesLess b a = false → a = b
  | [], [], _, _ => rfl
  | [], y :: b, h, _ => by simp [Op.bytesLess] at h
  | x :: a, [], _, h => by simp [Op.bytesLess] at h
  | x :: a, y :: b, h1, h2 => by
    by_cases h : x = y
    · subst h
      simp [Op.bytesLess] at h1 h2
      rw [less_tot a b h1 h2]
    · have h' : ¬ y = x := fun e => h e.symm
      simp [Op.bytesLess, h] at h1
      simp [Op.bytesLess, h'] at h2
      exact absurd (UInt8.le_antisymm h2 h1) h
theorem less_tr : ∀ a b c : List UInt8, Op.bytesLess a b = true → Op.bytesLess b c = true → Op.bytesLess a c = true
  | _, [], [], h, _ => by
    rename_i a; cases a <;> simp [Op.bytesLess] at h
  | [], _, z :: c, _, _ => by simp [Op.bytesLess]
  | a, y :: b, [], _, h => by simp [Op.bytesLess] at h
  | x :: a, [], _, h, _ => by simp [Op.bytesLess] at h
  | x :: a, y :: b, z :: c, h1, h2 => by
    by_cases h : x = y
    · subst h
      by_cases h' : x = z
      · subst h'
        simp [Op.bytesLess] at h1 h2 ⊢
        exact less_tr a b c h1 h2
      · simp [Op.bytesLess, h'] at h2 ⊢
        exact h2
    · simp [Op.bytesLess, h] at h1
      by_cases h' : y = z
      · subst h'
        simp [Op.bytesLess, h]
        exact h1
      · simp [Op.bytesLess, h'] at h2
        have h3 := UInt8.lt_trans h1 h2
        have h4 : ¬ x = z := fun e => by rw [e] at h3; exact absurd h3 (UInt8.lt_irrefl _)
        simp [Op.bytesLess, h4]
        exact h3
theorem less_ne {a b : List UInt8} (h : Op.bytesLess a b = true) : a ≠ b := fun e => by rw [e, less_irr] at h; cases h
theorem less_not {a b : List UInt8} (h : Op.bytesLess a b = true) : Op.bytesLess b a = false := by
  rcases Bool.eq_false_or_eq_true (Op.bytesLess b a) with h' | h'
  · have := less_tr a b a h h'
    rw [less_irr] at this; cases this
  · exact h'
/-- the lesser of two texts, the first one if they are alike -/
def minB (m x : List UInt8) : List UInt8 := if Op.bytesLess x m = true then x else m
def minJ (l : List (List UInt8)) : Nat → List UInt8
  | 0 => l.getD 0 []
  | i + 1 => minB (minJ l i) (l.getD (i + 1) [])
theorem minB_or (m x : List UInt8) : minB m x = x ∨ minB m x = m := by unfold minB; split; exact .inl rfl; exact .inr rfl
theorem minB_le (m x : List UInt8) : Op.bytesLess x (minB m x) = false ∧ Op.bytesLess m (minB m x) = false := by
  unfold minB
  split
  · rename_i h
    refine ⟨less_irr x, ?_⟩
    rcases Bool.eq_false_or_eq_true (Op.bytesLess m x) with h' | h'
    · have := less_tr x m x h h'
      rw [less_irr] at this; cases this
    · exact h'
  · rename_i h
    exact ⟨by simpa using h, less_irr m⟩
theorem less_le {a b c : List UInt8} (h1 : Op.bytesLess a b = false) (h2 : Op.bytesLess b c = false) : Op.bytesLess a c = false := by
  rcases Bool.eq_false_or_eq_true (Op.bytesLess a c) with h | h
  · rcases Bool.eq_false_or_eq_true (Op.bytesLess b a) with h3 | h3
    · have := less_tr b a c h3 h
      rw [h2] at this; cases this
    · have e := less_tot a b h1 h3
      rw [e, h2] at h; cases h
  · exact h
theorem minJ_least (l : List (List UInt8)) : ∀ i, i < l.length → minJ l i ∈ l.take (i + 1) ∧ ∀ k, k ≤ i → Op.bytesLess (l.getD k []) (minJ l i) = false
  | 0, h => by
    refine ⟨?_, fun k hk => ?_⟩
    · show l.getD 0 [] ∈ _
      have : l.getD 0 [] = l[0] := by simp [List.getD, h]
      rw [this]
      exact List.mem_take_iff_getElem.2 ⟨0, by omega, rfl⟩
    · have : k = 0 := by omega
      subst this; exact less_irr _
  | i + 1, h => by
    obtain ⟨h1, h2⟩ := minJ_least l i (by omega)
    obtain ⟨m1, m2⟩ := minB_le (minJ l i) (l.getD (i + 1) [])
    refine ⟨?_, fun k hk => ?_⟩
    · rcases minB_or (minJ l i) (l.getD (i + 1) []) with e | e
      · rw [minJ, e]
        have : l.getD (i + 1) [] = l[i + 1] := by simp [List.getD, h]
        rw [this]
        exact List.mem_take_iff_getElem.2 ⟨i + 1, by omega, rfl⟩
      · rw [minJ, e]
        obtain ⟨j, hj, hx⟩ := List.mem_take_iff_getElem.1 h1
        exact List.mem_take_iff_getElem.2 ⟨j, by omega, hx⟩
    · rcases Nat.lt_or_ge i k with hx | hx
      · have : k = i + 1 := by omega
        subst this; exact m1
      · exact less_le (h2 k hx) m2
def minL (l : List (List UInt8)) : List UInt8 := minJ l (l.length - 1)
theorem minL_least (l : List (List UInt8)) (h : l ≠ []) : Least l (minL l) := by
  have hl : 0 < l.length := List.length_pos_iff.2 h
  obtain ⟨h1, h2⟩ := minJ_least l (l.length - 1) (by omega)
  refine ⟨List.mem_of_mem_take h1, fun r hr => ?_⟩
  obtain ⟨k, hk, rfl⟩ := List.getElem_of_mem hr
  have := h2 k (by omega)
  rw [show l.getD k [] = l[k] by simp [List.getD, hk]] at this
  exact this
/-- the least is one alone -/
theorem least_one_only {l : List (List UInt8)} {a b : List UInt8} (ha : Least l a) (hb : Least l b) : a = b := less_tot a b (hb.2 a ha.1) (ha.2 b hb.1)
end Bw
end Go.Proofs.YthdhhmflfdbkhaaDoor

/- What slices.Min answers of texts. -/
namespace Go.Proofs.YthdhhmflfdbkhaaDoor
open Go.ChangeShapes Go.WideShapes Go.ChangeAt Go.RowKit
namespace Bw
open Bm
theorem min2_any (a b : List UInt8) (w : World) : (Builtin.min_ #[9, 9] 9 #[.string ⟨a.toArray⟩, .string ⟨b.toArray⟩]).run Tryd.prog w = .ok (.string ⟨(minB a b).toArray⟩) w := by
  have key : (if Op.bytesLess b a = true then ByteArray.mk b.toArray else ByteArray.mk a.toArray) = ⟨(minB a b).toArray⟩ := by
    unfold minB; split <;> rfl
  rw [← key]
  simp [Builtin.min_, Builtin.min2, Op.stringOp, ByteArray.toList_eq, asBool]
  by_cases h : Op.bytesLess b a = true
  · have h2 := less_not h
    have h3 : a ≠ b := fun e => less_ne h e.symm
    simp [h, h2, h3]
  · have h1 : Op.bytesLess b a = false := by simpa using h
    by_cases h2 : Op.bytesLess a b = true
    · simp [h1, h2]
    · have h3 : a = b := less_tot a b (by simpa using h2) h1
      subst h3; simp
set_option maxHeartbeats 1000000 in
theorem minS_any (g n c : Nat) (rows : List (List UInt8)) (w : World) (hn : rows.length = n) (h0 : 0 < n) (hm : n ≤ 1000) (hx : StrsAt w g 0 rows) :
    Calls Tryd.prog 10 #[.slice (some ⟨g, 0, none⟩) n c] w fun e w' => e = .returned (.string ⟨(minL rows).toArray⟩) ∧ w' = w := by
  have HX := Hid.mk hx
  have HN := Hid.mk hn
  have hc0 := hx 0 (by omega)
  have h0' : (1 : Int) ≤ (n : Int) := by omega
  simp only [Nat.zero_add] at hc0
  clear hx hn
  go_enter Tryd.func10, Tryd.ntmps10
  go_wp2_with fail
  go_loopw [3, 4] (fun m i wr => ∃ j : Nat, 1 ≤ j ∧ j ≤ n ∧ i = .int .i64 j ∧ m = .string ⟨(minJ rows (j - 1)).toArray⟩ ∧ wr = w) (fun _ i _ => n - (intOf i).toNat)
  case atStart => exact ⟨1, by omega, by omega, rfl, by simp [minJ], rfl⟩
  case round =>
    obtain ⟨j, hj1, hj, rfl, rfl, hwr⟩ := hrel
    subst hwr
    by_cases hlt : j < n
    · have hc := HX.out j (by rw [HN.out]; exact hlt)
      have hlt' : (j : Int) < (n : Int) := by omega
      simp only [Nat.zero_add] at hc
      have hjl : j - 1 + 1 = j := by omega
      have hmj : minJ rows j = minB (minJ rows (j - 1)) (rows.getD j []) := by rw [← hjl, minJ, hjl]
      have HMIN := Hid.mk (min2_any (minJ rows (j - 1)) (rows.getD j []) wr)
      rw [← hmj] at HMIN
      have HMJ := Hid.mk (show Value.string ⟨(minJ rows j).toArray⟩ = .string ⟨(minJ rows (j + 1 - 1)).toArray⟩ from rfl)
      generalize minJ rows j = M1 at *
      generalize ByteArray.mk (minJ rows (j - 1)).toArray = M0 at *
      generalize ByteArray.mk (rows.getD j []).toArray = R1 at *
      have hmin := HMIN.out
      clear hmj hjl
      go_wp2_with fail
      go_roundw
      case rel => exact ⟨j + 1, by omega, by omega, by go_num, HMJ.out, by first | rfl | trivial⟩
      case measure => simp [intOf]; omega
    · have e : j = n := by omega
      subst e
      have HL := Hid.mk (show minJ rows (j - 1) = minL rows by unfold minL; rw [HN.out])
      go_wp2_with fail
      go_ret
      exact ⟨by rw [← HL.out]; rfl, rfl⟩
end Bw
end Go.Proofs.YthdhhmflfdbkhaaDoor

/- What slices.Index and slices.Contains answer of texts. -/
namespace Go.Proofs.YthdhhmflfdbkhaaDoor
open Go.ChangeShapes Go.WideShapes Go.ChangeAt Go.RowKit
namespace Bw
open Bm
set_option maxHeartbeats 1000000 in
theorem indexS (g off n c : Nat) (xs : List (List UInt8)) (v : (List UInt8)) (w : World) (hn : xs.length = n) (hm : n ≤ 1000) (hx : StrsAt w g off xs) :
    Calls Tryd.prog 11 #[.slice (some ⟨g, off, none⟩) n c, .string ⟨v.toArray⟩] w fun e w' => e = .returned (.int .i64 (idxG xs v)) ∧ w' = w := by
  have HX := Hid.mk hx
  have HN := Hid.mk hn
  obtain ⟨V, hV⟩ : ∃ V : ByteArray, V = ⟨v.toArray⟩ := ⟨_, rfl⟩
  rw [← hV]
  have HVV := Hid.mk hV
  clear hx hn hV
  go_enter Tryd.func11, Tryd.ntmps11
  go_wp2_with fail
  go_loopw [8] (fun i wr => ∃ j : Nat, j ≤ n ∧ i = .int .i64 j ∧ Hid (v ∉ xs.take j) ∧ wr = w) (fun i _ => n - (intOf i).toNat)
  case atStart => exact ⟨0, Nat.zero_le _, rfl, Hid.mk (by simp), rfl⟩
  case round =>
    obtain ⟨j, hj, rfl, HV, hwr⟩ := hrel
    subst hwr
    by_cases hlt : j < n
    · have hc := HX.out j (by rw [HN.out]; exact hlt)
      have hlt' : (j : Int) < (n : Int) := by omega
      have hjl : j < xs.length := by rw [HN.out]; exact hlt
      by_cases he : v = xs.getD j []
      · have hb : (V.toList == (ByteArray.mk (xs.getD j []).toArray).toList) = true := by rw [HVV.out, txt_eq, ← he]; simp
        have HRES := Hid.mk (idxG_hit xs v [] j hjl HV.out he)
        generalize ByteArray.mk (xs.getD j []).toArray = y at *
        clear hjl he
        go_wp2_with fail
        go_ret
        exact ⟨by rw [HRES.out]; rfl, rfl⟩
      · have hb : (V.toList == (ByteArray.mk (xs.getD j []).toArray).toList) = false := by rw [HVV.out, txt_eq]; simpa using he
        have HNX := Hid.mk (idxG_next xs v [] j hjl HV.out he)
        generalize ByteArray.mk (xs.getD j []).toArray = y at *
        clear hjl he
        go_wp2_with fail
        go_roundw
        case rel => exact ⟨j + 1, by omega, by go_num, HNX, by first | rfl | trivial⟩
        case measure => simp [intOf]; omega
    · have e : j = n := by omega
      subst e
      have HRES := Hid.mk (idxG_none xs v (by
        have := HV.out
        rwa [← HN.out, List.take_length] at this))
      go_wp2_with fail
      go_ret
      exact ⟨by rw [HRES.out]; rfl, rfl⟩
set_option maxHeartbeats 1000000 in
theorem containsS (g off n c : Nat) (xs : List (List UInt8)) (v : (List UInt8)) (w : World) (hn : xs.length = n) (hm : n ≤ 1000) (hx : StrsAt w g off xs) :
    Calls Tryd.prog 42 #[.slice (some ⟨g, off, none⟩) n c, .string ⟨v.toArray⟩] w fun e w' => e = .returned (.bool (decide (v ∈ xs))) ∧ w' = w := by
  have h1 := indexS g off n c xs v w hn hm hx
  have he : decide (0 ≤ idxG xs v) = decide (v ∈ xs) := by rw [decide_eq_decide]; exact idxG_pos xs v
  have HE := Hid.mk he
  generalize idxG xs v = q at *
  clear he hn hx
  go_enter Tryd.func42, Tryd.ntmps42
  go_wp2_with fail
  refine h1.mono ?_
  rintro e w1 ⟨rfl, hw1⟩
  subst hw1
  go_wp2_with fail
  go_ret
  exact ⟨by rw [← HE.out]; rfl, rfl⟩
end Bw
end Go.Proofs.YthdhhmflfdbkhaaDoor
