/- What bytes.Clone answers of bytes: a row of one's own. -/
import Derived.Test.YtgjnfmbmndnihaaEqualB
import Derived.Lib.SliceRun
namespace Go.Proofs.Ytgjnfmbmndnihaa
open Go.ChangeShapes Go.WideShapes Go.ChangeAt Go.RowKit
namespace Bw
open Bm
theorem awG (w : World) (o : Obj) : Below w.heap.size w (w.alloc o) := (Below.refl _ _).alloc (Nat.le_refl _) _
theorem dwG (w : World) : Below w.heap.size w w.drew := ⟨rfl, rfl, rfl, Nat.le_refl _, fun _ _ => rfl⟩
theorem owns_baseG {w : World} {base base' : Nat} {e : TypeId} {size : Nat} {v : Value} {n : Nat} {xs : List Value} (h : w.ownsRow base e size v n xs) (hb : base' ≤ base) : w.ownsRow base' e size v n xs := by
  obtain ⟨h1, h2⟩ := h
  refine ⟨h1, ?_⟩
  rcases h2 with h2 | ⟨g, cap, cur, hv, hg, hr⟩
  · exact Or.inl h2
  · exact Or.inr ⟨g, cap, cur, hv, Nat.le_trans hb hg, hr⟩
theorem cells_atG (l : List UInt8) (i : Nat) (h : i < l.length) : (cellsOf l)[i]? = some (.int .u8 ((l.getD i 0).toNat : Int)) := by
  unfold cellsOf
  rw [List.getElem?_map, List.getElem?_eq_getElem h]
  simp [List.getD, h]
theorem isBytes_ownG {w : World} {base g n c : Nat} {l : List UInt8} (h : w.ownsRow base 5 1 (.slice (some ⟨g, 0, none⟩) n c) n (cellsOf l)) : IsBytes w (some ⟨g, 0, none⟩) n c l := by
  have hl : l.length = n := by have := h.1; rw [cellsOf_length] at this; omega
  rcases h.2 with ⟨h0, _⟩ | ⟨g', cap', cur, hv, hg, hh, hc, hm, hsz, htk⟩
  · cases h0
  · cases hv
    refine ⟨hl, hc, hm, fun e => (by cases e), fun x hx i hi => ?_⟩
    cases hx
    rw [Addr.add_lit, Nat.zero_add]
    have h2 := h.cells rfl i _ (cells_atG l i (by omega))
    rw [Addr.add_lit, Nat.zero_add] at h2
    exact h2
theorem hasG {w : World} {a : Option Addr} {n c : Nat} {l : List UInt8} (h : IsBytes w a n c l) : HasBytes w a n l := ⟨h.2.2.2.1, h.2.2.2.2⟩
theorem eqlG_nil (w : World) (cap : Nat) : (binOp .eql 22 (.slice none 0 cap) (.slice none 0 0)).run Try.prog w = .ok (.bool true) w :=
  Lib.run_eql_slice_nil w 22 5 none 0 cap 0 0 Try.underlying22
theorem eqlG_some (w : World) (x : Addr) (n cap : Nat) : (binOp .eql 22 (.slice (some x) n cap) (.slice none 0 0)).run Try.prog w = .ok (.bool false) w :=
  Lib.run_eql_slice_nil w 22 5 (some x) n cap 0 0 Try.underlying22
theorem bytes_cells {w : World} {x : Addr} {len cap : Nat} {dt : List UInt8} (hY : IsBytes w (some x) len cap dt) : ∀ q u, (cellsOf dt)[q]? = some u → w.cell? (x.add q) = some u := by
  intro q u hq
  have hq1 : q < dt.length := by
    rcases Nat.lt_or_ge q dt.length with hh | hh
    · exact hh
    · rw [List.getElem?_eq_none (by rw [cellsOf_length]; exact hh)] at hq; cases hq
  rw [hY.2.2.2.2 x rfl q (by have := hY.1; omega)]
  rw [cells_atG dt q hq1] at hq
  exact hq
set_option maxHeartbeats 4000000 in
set_option maxRecDepth 100000 in
theorem cloneBy_some (x : Addr) (len cap : Nat) (dt : List UInt8) (w : World) (hY : IsBytes w (some x) len cap dt) (hlen : len ≤ 140737488351232) :
    Calls Try.prog 31 #[.slice (some x) len cap] w fun e w' => ∃ g c, e = .returned (.slice (some ⟨g, 0, none⟩) len c) ∧ w'.ownsRow w.heap.size 5 1 (.slice (some ⟨g, 0, none⟩) len c) len (cellsOf dt) ∧ w.heap.size ≤ g ∧ Below w.heap.size w w' := by
  obtain ⟨i0, hi, hz0, hz1, hz2⟩ := info_parts info_u8
  have hB0 : Below w.heap.size w (w.alloc (.cells #[] 5)) := awG _ _
  have hcl : (cellsOf dt).length = len * 1 := by rw [cellsOf_length, hY.1, Nat.mul_one]
  have he := eqlG_some w x len cap
  have HO := Hid.mk (show (w.alloc (.cells #[] 5)).ownsRow w.heap.size 5 1 (.slice (some ⟨w.heap.size, 0, none⟩) 0 0) 0 [] from World.ownsRow_made w #[] 0 (Nat.le_refl _) (Nat.zero_le _) rfl)
  have HCC := Hid.mk (bytes_cells (isBytes_below hY hB0))
  have HB := Hid.mk hB0
  have HCL := Hid.mk hcl
  clear hY hB0 hcl
  go_enter Try.func31, Try.ntmps31
  go_wp2_with (at_builtin; refine wpList_append_own _ rfl (.tmp 5) (.tmp 6) 22 rfl w.heap.size 5 i0 (.int .u8 0) 1 1 Try.underlying22 hi hz0 hz1 hz2 rfl (by decide) _ _ _ rfl HO.out x len cap (cellsOf dt) rfl HCL.out HCC.out (by intro u hu; simp [cellsOf] at hu; obtain ⟨c, -, rfl⟩ := hu; rfl) (by unfold maxLen; omega) (by omega) (by simp) ?_; intro v3 w3 hown3 hgrow3 hnil3)
  rw [Nat.zero_add, List.nil_append] at hown3
  obtain ⟨g, c, rfl⟩ : ∃ g c, v3 = .slice (some ⟨g, 0, none⟩) len c := by
    rcases hown3.2 with ⟨h1, _⟩ | ⟨g, c, cur, h1, _⟩
    · have h2 := hnil3.1 h1
      cases h2.1
    · exact ⟨g, c, h1⟩
  have hB3 : Below w.heap.size w w3 := Below.grown HB.out hgrow3 (by simp) (fun q hq => (HO.out.lt q hq).1)
  have hg : w.heap.size ≤ g := by
    rcases hown3.2 with ⟨h0, _⟩ | ⟨g', cap', cur, hv, hg, _⟩
    · cases h0
    · cases hv; exact hg
  go_ret
  exact ⟨g, c, rfl, hown3, hg, hB3⟩
set_option maxHeartbeats 4000000 in
set_option maxRecDepth 100000 in
theorem cloneBy_nil (w : World) (cap : Nat) :
    Calls Try.prog 31 #[.slice none 0 cap] w fun e w' => e = .returned (.slice none 0 0) ∧ w' = w := by
  have he := eqlG_nil w cap
  go_enter Try.func31, Try.ntmps31
  go_wp2_with fail
  go_ret
  exact ⟨rfl, rfl⟩
theorem cloneBy_any (a : Option Addr) (len cap : Nat) (l : List UInt8) (w : World) (hD : IsBytes w a len cap l) (hlen : len ≤ 140737488351232) :
    Calls Try.prog 31 #[.slice a len cap] w fun e w' => ∃ a' c', e = .returned (.slice a' len c') ∧ IsBytes w' a' len c' l ∧ Below w.heap.size w w' := by
  cases a with
  | none =>
    have h0 := hD.2.2.2.1 rfl
    subst h0
    refine (cloneBy_nil w cap).mono ?_
    rintro e w' ⟨rfl, rfl⟩
    exact ⟨none, 0, rfl, ⟨hD.1, Nat.le_refl _, Nat.zero_le _, fun _ => rfl, fun x hx => by cases hx⟩, Below.refl _ _⟩
  | some x =>
    refine (cloneBy_some x len cap l w hD hlen).mono ?_
    rintro e w' ⟨g, c, rfl, hown, -, hb⟩
    exact ⟨some ⟨g, 0, none⟩, c, rfl, isBytes_ownG hown, hb⟩
end Bw
end Go.Proofs.Ytgjnfmbmndnihaa
