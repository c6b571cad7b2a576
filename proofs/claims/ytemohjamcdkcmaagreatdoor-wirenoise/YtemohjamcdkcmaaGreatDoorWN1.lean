/- What the laws' noFrame answers of no frame. -/
import Derived.Test.YtemohjamcdkcmaaGreatDoorC1
import Derived.Laws.IdiomStrings
import Derived.Laws.BitsAllLaws
import Derived.Test.YtemohjamcdkcmaaGreatDoorC2
import Derived.Test.YtemohjamcdkcmaaGreatDoorC5
import Derived.Test.YtemohjamcdkcmaaGreatDoorC3
import Derived.Test.YtemohjamcdkcmaaGreatDoorC14
import Derived.Test.YtemohjamcdkcmaaGreatDoorC12
import Derived.Test.YtemohjamcdkcmaaGreatDoorFrBack
import Derived.Test.YtemohjamcdkcmaaGreatDoorD1
namespace Go.Proofs.YtemohjamcdkcmaaGreatDoor
open Go.ChangeShapes Go.WideShapes Go.ChangeAt Go.RowKit
namespace Bw
open Bm

/-- block g begins with the bytes l, and each may be written -/
def ConvAt (w : World) (g : Nat) (l : List UInt8) : Prop := g < w.heap.size ∧ ∀ j, j < l.length → w.cell? ⟨g, j, none⟩ = some (.int .u8 (l.getD j 0).toNat) ∧ w.frozen? ⟨g, j, none⟩ = false
theorem getD_at {l : List UInt8} {j : Nat} (h : j < l.length) : l.getD j 0 = l[j] := by simp [List.getD, h]
/-- the world behind the making -/
def convW (w : World) (s : ByteArray) : World := w.drew.alloc (.cells (bytesRow s (grownCap w s.size 0 5)) 5 ((bytesRow s (grownCap w s.size 0 5)).size, (bytesRow s (grownCap w s.size 0 5)).size + 1))
theorem conv_run (w : World) (s : ByteArray) : (convert 9 22 (.string s)).run Tryz.prog w = .ok (.slice (some ⟨w.heap.size, 0, none⟩) s.size (grownCap w s.size 0 5)) (convW w s) :=
  run_bytes_of_string w 9 22 5 s Tryz.underlying9 Tryz.underlying22 Tryz.underlying5
theorem conv_new (w : World) (s : ByteArray) : ConvAt (convW w s) w.heap.size s.data.toList := by
  refine ⟨by unfold convW; simp, fun j hj => ?_⟩
  have hj' : j < s.data.size := by simpa using hj
  have hj2 : j < s.size := hj'
  have h1 := World.cell?_alloc_mark w.drew (bytesRow s (grownCap w s.size 0 5)) 5 ((bytesRow s (grownCap w s.size 0 5)).size, (bytesRow s (grownCap w s.size 0 5)).size + 1) j
  have h2 := World.frozen?_alloc_mark w.drew (bytesRow s (grownCap w s.size 0 5)) 5 (bytesRow s (grownCap w s.size 0 5)).size ((bytesRow s (grownCap w s.size 0 5)).size + 1) j
  refine ⟨?_, ?_⟩
  · refine Eq.trans h1 ?_
    rw [bytesRow_at s _ j hj', getD_at hj]
    simp
  · refine Eq.trans h2 ?_
    have : j < (bytesRow s (grownCap w s.size 0 5)).size := by unfold bytesRow; simp; omega
    have e : decide ((bytesRow s (grownCap w s.size 0 5)).size ≤ j) = false := by simp; omega
    rw [e]; rfl
theorem conv_below (w : World) (s : ByteArray) : Below w.heap.size w (convW w s) := ((Below.refl w.heap.size w).drew).alloc (by simp) _
theorem ConvAt.kept {w w' : World} {g : Nat} {l : List UInt8} (h : ConvAt w g l) (hb : Below w.heap.size w w') : ConvAt w' g l :=
  ⟨Nat.lt_of_lt_of_le h.1 hb.size, fun j hj => ⟨by rw [hb.cell h.1]; exact (h.2 j hj).1, by rw [hb.frozen h.1]; exact (h.2 j hj).2⟩⟩
theorem ConvAt.set {w : World} {g : Nat} {l : List UInt8} (h : ConvAt w g l) (j : Nat) (hj : j < l.length) (c : UInt8) : ConvAt (w.setCell ⟨g, j, none⟩ (.int .u8 c.toNat)) g (l.set j c) := by
  refine ⟨by simpa [World.setCell] using h.1, fun i hi => ?_⟩
  rw [List.length_set] at hi
  refine ⟨?_, by rw [World.frozen?_setCell]; exact (h.2 i hi).2⟩
  by_cases e : j = i
  · subst e
    rw [World.cell?_setCell_same _ _ _ (h.2 j hj).1]
    simp [List.getD, hj]
  · rw [World.cell?_setCell_other _ _ _ _ (by intro h; injection h with _ h; exact e h), (h.2 i hi).1]
    simp [List.getD, e]
theorem ConvAt.back {w : World} {g : Nat} {l : List UInt8} (h : ConvAt w g l) (cap n : Nat) (hn : l.length = n) : (convert 22 9 (.slice (some ⟨g, 0, none⟩) n cap)).run Tryz.prog w = .ok (.string ⟨l.toArray⟩) w := by
  have := run_convert_bytes_back w 22 9 5 ⟨g, 0, none⟩ cap l Tryz.underlying22 Tryz.underlying5 Tryz.underlying9 (fun j hj => by
    have e : (Addr.add ⟨g, 0, none⟩ j) = ⟨g, j, none⟩ := by simp [Addr.add]; exact fun h => h.symm
    rw [e, (h.2 j hj).1, getD_at hj])
  rw [hn] at this
  exact this
theorem xor_one (c : UInt8) : bits .xor .u8 (c.toNat : Int) 1 = (((c ^^^ 1 : UInt8).toNat : Nat) : Int) := by
  have h := u8_xor_nat c.toNat 1 (UInt8.toNat_lt c) (by omega)
  rw [UInt8.toNat_xor]
  exact h
end Bw
end Go.Proofs.YtemohjamcdkcmaaGreatDoor
namespace Go.Proofs.YtemohjamcdkcmaaGreatDoor
namespace Bw
open Bm
/-- a row of which the bits at the first k of these places come turned -/
def turnK (b : List UInt8) (at_ : List Int) : Nat → List UInt8
  | 0 => b
  | k + 1 => (turnK b at_ k).set (at_.getD k 0).toNat (otb ((turnK b at_ k).getD (at_.getD k 0).toNat 0))
theorem turnK_len (b : List UInt8) (at_ : List Int) : ∀ k, (turnK b at_ k).length = b.length
  | 0 => rfl
  | k + 1 => by rw [turnK, List.length_set, turnK_len b at_ k]
theorem bit_ot (c : UInt8) : bit (otb c) = true := by
  unfold otb; split <;> decide
theorem turnK_row (b : List UInt8) (at_ : List Int) (hb : rowB b = true) : ∀ k, rowB (turnK b at_ k) = true
  | 0 => hb
  | k + 1 => by
    have ih := turnK_row b at_ hb k
    rw [turnK]
    unfold rowB at ih ⊢
    rw [List.all_eq_true] at ih ⊢
    intro x hx
    rcases List.mem_or_eq_of_mem_set hx with h | h
    · exact ih x h
    · rw [h]; exact bit_ot _
theorem set_parts (l : List UInt8) (i : Nat) (c : UInt8) (h : i < l.length) : l.set i c = l.take i ++ c :: l.drop (i + 1) := by
  rw [List.set_eq_take_append_cons_drop, if_pos h]
/-- all of these are places of a row so long -/
def inAll (n : Nat) (at_ : List Int) : Bool := at_.all fun i => decide (0 ≤ i) && decide (i < n)
/-- the first k are -/
def inK (n : Nat) (at_ : List Int) (k : Nat) : Prop := ∀ j, j < k → 0 ≤ at_.getD j 0 ∧ at_.getD j 0 < n
theorem inK_next {n : Nat} {at_ : List Int} {k : Nat} (h : inK n at_ k) (h0 : 0 ≤ at_.getD k 0) (h1 : at_.getD k 0 < n) : inK n at_ (k + 1) := by
  intro j hj
  rcases Nat.lt_or_ge j k with hx | hx
  · exact h j hx
  · have : j = k := by omega
    subst this; exact ⟨h0, h1⟩
theorem inAll_of {n : Nat} {at_ : List Int} (h : inK n at_ at_.length) : inAll n at_ = true := by
  unfold inAll
  rw [List.all_eq_true]
  intro x hx
  obtain ⟨j, hj, rfl⟩ := List.getElem_of_mem hx
  have := h j hj
  rw [show at_.getD j 0 = at_[j] by simp [List.getD, hj]] at this
  simpa using this
theorem inAll_not {n : Nat} {at_ : List Int} {k : Nat} (hk : k < at_.length) (h : ¬ (0 ≤ at_.getD k 0 ∧ at_.getD k 0 < n)) : inAll n at_ = false := by
  rcases Bool.eq_false_or_eq_true (inAll n at_) with hx | hx
  · exfalso
    unfold inAll at hx
    rw [List.all_eq_true] at hx
    have := hx at_[k] (List.getElem_mem hk)
    rw [show at_.getD k 0 = at_[k] by simp [List.getD, hk]] at h
    exact h (by simpa using this)
  · exact hx
end Bw
end Go.Proofs.YtemohjamcdkcmaaGreatDoor
namespace Go.Proofs.YtemohjamcdkcmaaGreatDoor
open Go.ChangeShapes Go.WideShapes Go.ChangeAt Go.RowKit
namespace Bw
open Bm
theorem isBytes_apart {w w' : World} {a : Option Addr} {len cap g : Nat} {l : List UInt8} {cs : Array Value} {t : TypeId} {fr : Nat × Nat} (hb : IsBytes w a len cap l) (hz : w.heap[g]? = some (.cells cs t fr)) (hn : ∀ (j : Nat) (v : Value), cs[j]? = some v → ∀ n, v ≠ Value.int .u8 n) (ht : Tch [g] w w') : IsBytes w' a len cap l := by
  refine ⟨hb.1, hb.2.1, hb.2.2.1, hb.2.2.2.1, fun x hx i hi => ?_⟩
  have hv := hb.2.2.2.2 x hx i hi
  have hlt := block_lt_of_cell hv
  have hne : (x.add i).block ∉ [g] := by
    intro hm
    have he : (x.add i).block = g := by simpa using hm
    unfold World.cell? at hv
    rw [he, hz] at hv
    simp at hv
    exact hn _ _ hv.2 _ rfl
  unfold World.cell? at hv ⊢
  rw [ht.block _ hlt hne]
  exact hv
theorem frame_apart : ∀ (j : Nat) (v : Value), (#[Value.int .i64 0, .bool false, .bool false, .bool false, .int .i64 0, .slice none 0 0] : Array Value)[j]? = some v → ∀ n, v ≠ Value.int .u8 n := by
  intro j v h n
  match j, h with
  | 0, h => cases h; intro e; cases e
  | 1, h => cases h; intro e; cases e
  | 2, h => cases h; intro e; cases e
  | 3, h => cases h; intro e; cases e
  | 4, h => cases h; intro e; cases e
  | 5, h => cases h; intro e; cases e
  | k + 6, h => simp at h
end Bw
end Go.Proofs.YtemohjamcdkcmaaGreatDoor
namespace Go.Proofs.YtemohjamcdkcmaaGreatDoor
open Go.ChangeShapes Go.WideShapes Go.ChangeAt Go.RowKit
namespace Bw
open Bm Cm
/-- numbers that came in -/
def NumsA (w : World) (a : Option Addr) (n : Nat) (zs : List Int) : Prop := zs.length = n ∧ (a = none → n = 0) ∧ ∀ x, a = some x → ∀ i, i < n → w.cell? (x.add i) = some (.int .i64 (zs.getD i 0))
theorem NumsA.kept {w w' : World} {a : Option Addr} {n : Nat} {zs : List Int} (h : NumsA w a n zs) (hb : Below w.heap.size w w') : NumsA w' a n zs := ⟨h.1, h.2.1, fun x hx i hi => cell_kept hb (h.2.2 x hx i hi)⟩
theorem noise_results (tmps : Array Value) (w : World) (g : Nat) (cs : Array Value) (x : Value) (hp : tmps.getD 4 undef = .pointer (some ⟨g, 0, none⟩)) (hx : tmps.getD 5 undef = x) (h : w.heap[g]? = some (.cells cs 24 (0, 0))) (hs : cs.size = 6) :
    (results Tryz.f26 tmps).run Tryz.prog w = .ok (.tuple #[.agg cs, x]) w := by
  have hl := run_loadVar_row (P := Tryz.prog) w g 24 24 cs (0, 0) _ h Tryz.underlying24 rfl (by rw [frame_i, hs])
  have hp' : tmps[4]?.getD undef = .pointer (some ⟨g, 0, none⟩) := by simpa using hp
  have hx' : tmps[5]?.getD undef = x := by simpa using hx
  simp [results, hp', hx', asAddr, hl]
set_option maxHeartbeats 400000 in
theorem turned_byte (c : UInt8) (w : World) :
    Calls Tryz.prog 62 #[.int .u8 c.toNat] w fun e w' => e = .returned (.int .u8 (otb c).toNat) ∧ w' = w := by
  unfold otb
  by_cases h : c = 48
  · subst h
    rw [if_pos rfl]
    go_enter Tryz.func62, Tryz.ntmps62
    go_wp2; go_ret; exact ⟨rfl, rfl⟩
  · rw [if_neg h]
    have h' : ((c.toNat : Int) == 48) = false := by
      have : c.toNat ≠ (48 : UInt8).toNat := fun e => h (UInt8.toNat_inj.1 e)
      rw [beq_eq_false_iff_ne]
      intro e
      exact this (by show c.toNat = 48; omega)
    go_enter Tryz.func62, Tryz.ntmps62
    go_wp2; go_ret; exact ⟨rfl, rfl⟩
/-- the two blocks that Noise lays first -/
def noiseW (f : Fr) (a : Option Addr) (len cap : Nat) (w : World) : World := (w.alloc (frameC f.id f.lo f.fa f.re f.sz a len cap)).alloc (.cells #[.int .i64 0, .bool false, .bool false, .bool false, .int .i64 0, .slice none 0 0] 24)
theorem noiseW_size (f : Fr) (a : Option Addr) (len cap : Nat) (w : World) : (noiseW f a len cap w).heap.size = w.heap.size + 2 := by unfold noiseW; simp
theorem noiseW_below (f : Fr) (a : Option Addr) (len cap : Nat) (w : World) : Below w.heap.size w (noiseW f a len cap w) := bl2 (below_box w f.id f.lo f.fa f.re f.sz a len cap) ((Below.refl _ _).alloc (Nat.le_refl _) _)
theorem noiseW_zero (f : Fr) (a : Option Addr) (len cap : Nat) (w : World) : (noiseW f a len cap w).heap[w.heap.size + 1]? = some (.cells #[.int .i64 0, .bool false, .bool false, .bool false, .int .i64 0, .slice none 0 0] 24) := by
  have h := heap_alloc_new (w.alloc (frameC f.id f.lo f.fa f.re f.sz a len cap)) (.cells #[.int .i64 0, .bool false, .bool false, .bool false, .int .i64 0, .slice none 0 0] 24)
  have e : (w.alloc (frameC f.id f.lo f.fa f.re f.sz a len cap)).heap.size = w.heap.size + 1 := by simp
  rw [e] at h
  exact h
theorem noiseW_at (f : Fr) (a : Option Addr) (len cap : Nat) (w : World) : FrAt (noiseW f a len cap w) w.heap.size f.id f.lo f.fa f.re f.sz a len cap := (FrAt.box w f.id f.lo f.fa f.re f.sz a len cap).kept ((Below.refl _ _).alloc (Nat.le_refl _) _)
set_option maxHeartbeats 4000000 in
set_option maxRecDepth 100000 in
theorem noise_bad (f : Fr) (a : Option Addr) (len cap : Nat) (p : Option Addr) (n c : Nat) (w : World) (hS : SizesAt w) (hR : RulesAt w) (hby : IsBytes w a len cap f.dt) (hE : frE f ≠ 0) :
    Calls Tryz.prog 26 #[frameV f.id f.lo f.fa f.re f.sz a len cap, .slice p n c] w fun e w' => e = .returned (.tuple #[frameV 0 false false false 0 none 0 0, .int .i64 (frE f)]) ∧ Below w.heap.size w w' := by
  have hB0 := noiseW_below f a len cap w
  have hZ0 := noiseW_zero f a len cap w
  have hK0 := noiseW_at f a len cap w
  have hsz := noiseW_size f a len cap w
  have a1 := frBits_any f a len cap _ (hS.kept hB0) (hR.kept hB0) (isBytes_below hby hB0)
  have hba : bitsA f = .tuple #[.string ⟨#[]⟩, .int .i64 (frE f)] := by unfold bitsA; rw [if_neg hE]
  rw [hba] at a1
  clear hba
  have HA1 := Hid.mk a1
  have HB0 := Hid.mk hB0
  have HZ0 := Hid.mk hZ0
  have HSZ := Hid.mk hsz
  obtain ⟨m0, m1, m2, m3, m4, m5⟩ := hK0
  unfold noiseW frameC at HA1 HB0 HZ0 HSZ m0 m1 m2 m3 m4 m5
  unfold frameV at HA1 ⊢
  have hne : (frE f != 0) = true := by simpa using hE
  generalize frE f = ce at *
  clear hE
  clear a1 hB0 hZ0 hsz hS hR hby
  go_enter Tryz.func26, Tryz.ntmps26
  go_wp2_with fail
  refine HA1.out.mono ?_
  rintro e w1 ⟨rfl, hb1⟩
  have hA1 := (hb1.block (w.heap.size + 1) (by have := HSZ.out; omega)).trans HZ0.out
  have HB1 := Hid.mk (bl2 HB0.out hb1)
  clear hb1 HB0 HZ0 HSZ m0 m1 m2 m3 m4 m5
  have kc0 := cell_of_row w1 (w.heap.size + 1) 0 _ _ _ hA1
  have kz0 := frozen_of_row w1 (w.heap.size + 1) 0 _ _ hA1
  have ks0 := heap_setCell_same w1 (w.heap.size + 1) 0 _ _ (.int .i64 0) hA1
  simp only [List.setIfInBounds_toArray, List.set_cons_zero] at ks0
  simp at kc0
  have kc1 := cell_of_row (w1.setCell ⟨(w.heap.size + 1), 0, none⟩ (.int .i64 0)) (w.heap.size + 1) 1 _ _ _ ks0
  have kz1 := frozen_of_row (w1.setCell ⟨(w.heap.size + 1), 0, none⟩ (.int .i64 0)) (w.heap.size + 1) 1 _ _ ks0
  have ks1 := heap_setCell_same (w1.setCell ⟨(w.heap.size + 1), 0, none⟩ (.int .i64 0)) (w.heap.size + 1) 1 _ _ (.bool false) ks0
  simp only [List.setIfInBounds_toArray, List.set_cons_zero, List.set_cons_succ] at ks1
  simp at kc1
  have kc2 := cell_of_row ((w1.setCell ⟨(w.heap.size + 1), 0, none⟩ (.int .i64 0)).setCell ⟨(w.heap.size + 1), 1, none⟩ (.bool false)) (w.heap.size + 1) 2 _ _ _ ks1
  have kz2 := frozen_of_row ((w1.setCell ⟨(w.heap.size + 1), 0, none⟩ (.int .i64 0)).setCell ⟨(w.heap.size + 1), 1, none⟩ (.bool false)) (w.heap.size + 1) 2 _ _ ks1
  have ks2 := heap_setCell_same ((w1.setCell ⟨(w.heap.size + 1), 0, none⟩ (.int .i64 0)).setCell ⟨(w.heap.size + 1), 1, none⟩ (.bool false)) (w.heap.size + 1) 2 _ _ (.bool false) ks1
  simp only [List.setIfInBounds_toArray, List.set_cons_zero, List.set_cons_succ] at ks2
  simp at kc2
  have kc3 := cell_of_row (((w1.setCell ⟨(w.heap.size + 1), 0, none⟩ (.int .i64 0)).setCell ⟨(w.heap.size + 1), 1, none⟩ (.bool false)).setCell ⟨(w.heap.size + 1), 2, none⟩ (.bool false)) (w.heap.size + 1) 3 _ _ _ ks2
  have kz3 := frozen_of_row (((w1.setCell ⟨(w.heap.size + 1), 0, none⟩ (.int .i64 0)).setCell ⟨(w.heap.size + 1), 1, none⟩ (.bool false)).setCell ⟨(w.heap.size + 1), 2, none⟩ (.bool false)) (w.heap.size + 1) 3 _ _ ks2
  have ks3 := heap_setCell_same (((w1.setCell ⟨(w.heap.size + 1), 0, none⟩ (.int .i64 0)).setCell ⟨(w.heap.size + 1), 1, none⟩ (.bool false)).setCell ⟨(w.heap.size + 1), 2, none⟩ (.bool false)) (w.heap.size + 1) 3 _ _ (.bool false) ks2
  simp only [List.setIfInBounds_toArray, List.set_cons_zero, List.set_cons_succ] at ks3
  simp at kc3
  have kc4 := cell_of_row ((((w1.setCell ⟨(w.heap.size + 1), 0, none⟩ (.int .i64 0)).setCell ⟨(w.heap.size + 1), 1, none⟩ (.bool false)).setCell ⟨(w.heap.size + 1), 2, none⟩ (.bool false)).setCell ⟨(w.heap.size + 1), 3, none⟩ (.bool false)) (w.heap.size + 1) 4 _ _ _ ks3
  have kz4 := frozen_of_row ((((w1.setCell ⟨(w.heap.size + 1), 0, none⟩ (.int .i64 0)).setCell ⟨(w.heap.size + 1), 1, none⟩ (.bool false)).setCell ⟨(w.heap.size + 1), 2, none⟩ (.bool false)).setCell ⟨(w.heap.size + 1), 3, none⟩ (.bool false)) (w.heap.size + 1) 4 _ _ ks3
  have ks4 := heap_setCell_same ((((w1.setCell ⟨(w.heap.size + 1), 0, none⟩ (.int .i64 0)).setCell ⟨(w.heap.size + 1), 1, none⟩ (.bool false)).setCell ⟨(w.heap.size + 1), 2, none⟩ (.bool false)).setCell ⟨(w.heap.size + 1), 3, none⟩ (.bool false)) (w.heap.size + 1) 4 _ _ (.int .i64 0) ks3
  simp only [List.setIfInBounds_toArray, List.set_cons_zero, List.set_cons_succ] at ks4
  simp at kc4
  have kc5 := cell_of_row (((((w1.setCell ⟨(w.heap.size + 1), 0, none⟩ (.int .i64 0)).setCell ⟨(w.heap.size + 1), 1, none⟩ (.bool false)).setCell ⟨(w.heap.size + 1), 2, none⟩ (.bool false)).setCell ⟨(w.heap.size + 1), 3, none⟩ (.bool false)).setCell ⟨(w.heap.size + 1), 4, none⟩ (.int .i64 0)) (w.heap.size + 1) 5 _ _ _ ks4
  have kz5 := frozen_of_row (((((w1.setCell ⟨(w.heap.size + 1), 0, none⟩ (.int .i64 0)).setCell ⟨(w.heap.size + 1), 1, none⟩ (.bool false)).setCell ⟨(w.heap.size + 1), 2, none⟩ (.bool false)).setCell ⟨(w.heap.size + 1), 3, none⟩ (.bool false)).setCell ⟨(w.heap.size + 1), 4, none⟩ (.int .i64 0)) (w.heap.size + 1) 5 _ _ ks4
  have ks5 := heap_setCell_same (((((w1.setCell ⟨(w.heap.size + 1), 0, none⟩ (.int .i64 0)).setCell ⟨(w.heap.size + 1), 1, none⟩ (.bool false)).setCell ⟨(w.heap.size + 1), 2, none⟩ (.bool false)).setCell ⟨(w.heap.size + 1), 3, none⟩ (.bool false)).setCell ⟨(w.heap.size + 1), 4, none⟩ (.int .i64 0)) (w.heap.size + 1) 5 _ _ (.slice none 0 0) ks4
  simp only [List.setIfInBounds_toArray, List.set_cons_zero, List.set_cons_succ] at ks5
  simp at kc5
  have HFIN := Hid.mk ks5
  go_wp2_with fail
  refine bodyPost_ret (noise_results _ _ (w.heap.size + 1) _ _ rfl rfl HFIN.out rfl) rfl ?_
  refine ⟨rfl, ?_⟩
  exact Tch.below HB1.out ((((((((Tch.refl [w.heap.size + 1] w1).setK (by simp) _ _).setK (by simp) _ _).setK (by simp) _ _).setK (by simp) _ _).setK (by simp) _ _).setK (by simp) _ _)) (by simp) (Nat.le_refl _)
set_option maxHeartbeats 4000000 in
set_option maxRecDepth 100000 in
theorem noise_many (f : Fr) (a : Option Addr) (len cap : Nat) (p : Option Addr) (n c : Nat) (w : World) (hS : SizesAt w) (hR : RulesAt w) (hby : IsBytes w a len cap f.dt) (hE : frE f = 0) (hn : 1000 < n) :
    Calls Tryz.prog 26 #[frameV f.id f.lo f.fa f.re f.sz a len cap, .slice p n c] w fun e w' => e = .returned (.tuple #[frameV 0 false false false 0 none 0 0, .int .i64 2]) ∧ Below w.heap.size w w' := by
  have hB0 := noiseW_below f a len cap w
  have hZ0 := noiseW_zero f a len cap w
  have hK0 := noiseW_at f a len cap w
  have hsz := noiseW_size f a len cap w
  have a1 := frBits_any f a len cap _ (hS.kept hB0) (hR.kept hB0) (isBytes_below hby hB0)
  have hba : bitsA f = .tuple #[.string ⟨(bitsL f).toArray⟩, .int .i64 0] := by unfold bitsA; rw [if_pos hE]
  rw [hba] at a1
  clear hba
  have HA1 := Hid.mk a1
  have HB0 := Hid.mk hB0
  have HZ0 := Hid.mk hZ0
  have HSZ := Hid.mk hsz
  obtain ⟨m0, m1, m2, m3, m4, m5⟩ := hK0
  unfold noiseW frameC at HA1 HB0 HZ0 HSZ m0 m1 m2 m3 m4 m5
  unfold frameV at HA1 ⊢
  generalize ByteArray.mk (bitsL f).toArray = BT at *
  have hn2 : (1000 : Int) < (n : Int) := by omega
  clear hE
  clear a1 hB0 hZ0 hsz hS hR hby
  go_enter Tryz.func26, Tryz.ntmps26
  go_wp2_with fail
  refine HA1.out.mono ?_
  rintro e w1 ⟨rfl, hb1⟩
  have hA1 := (hb1.block (w.heap.size + 1) (by have := HSZ.out; omega)).trans HZ0.out
  have HB1 := Hid.mk (bl2 HB0.out hb1)
  clear hb1 HB0 HZ0 HSZ m0 m1 m2 m3 m4 m5
  have kc0 := cell_of_row w1 (w.heap.size + 1) 0 _ _ _ hA1
  have kz0 := frozen_of_row w1 (w.heap.size + 1) 0 _ _ hA1
  have ks0 := heap_setCell_same w1 (w.heap.size + 1) 0 _ _ (.int .i64 0) hA1
  simp only [List.setIfInBounds_toArray, List.set_cons_zero] at ks0
  simp at kc0
  have kc1 := cell_of_row (w1.setCell ⟨(w.heap.size + 1), 0, none⟩ (.int .i64 0)) (w.heap.size + 1) 1 _ _ _ ks0
  have kz1 := frozen_of_row (w1.setCell ⟨(w.heap.size + 1), 0, none⟩ (.int .i64 0)) (w.heap.size + 1) 1 _ _ ks0
  have ks1 := heap_setCell_same (w1.setCell ⟨(w.heap.size + 1), 0, none⟩ (.int .i64 0)) (w.heap.size + 1) 1 _ _ (.bool false) ks0
  simp only [List.setIfInBounds_toArray, List.set_cons_zero, List.set_cons_succ] at ks1
  simp at kc1
  have kc2 := cell_of_row ((w1.setCell ⟨(w.heap.size + 1), 0, none⟩ (.int .i64 0)).setCell ⟨(w.heap.size + 1), 1, none⟩ (.bool false)) (w.heap.size + 1) 2 _ _ _ ks1
  have kz2 := frozen_of_row ((w1.setCell ⟨(w.heap.size + 1), 0, none⟩ (.int .i64 0)).setCell ⟨(w.heap.size + 1), 1, none⟩ (.bool false)) (w.heap.size + 1) 2 _ _ ks1
  have ks2 := heap_setCell_same ((w1.setCell ⟨(w.heap.size + 1), 0, none⟩ (.int .i64 0)).setCell ⟨(w.heap.size + 1), 1, none⟩ (.bool false)) (w.heap.size + 1) 2 _ _ (.bool false) ks1
  simp only [List.setIfInBounds_toArray, List.set_cons_zero, List.set_cons_succ] at ks2
  simp at kc2
  have kc3 := cell_of_row (((w1.setCell ⟨(w.heap.size + 1), 0, none⟩ (.int .i64 0)).setCell ⟨(w.heap.size + 1), 1, none⟩ (.bool false)).setCell ⟨(w.heap.size + 1), 2, none⟩ (.bool false)) (w.heap.size + 1) 3 _ _ _ ks2
  have kz3 := frozen_of_row (((w1.setCell ⟨(w.heap.size + 1), 0, none⟩ (.int .i64 0)).setCell ⟨(w.heap.size + 1), 1, none⟩ (.bool false)).setCell ⟨(w.heap.size + 1), 2, none⟩ (.bool false)) (w.heap.size + 1) 3 _ _ ks2
  have ks3 := heap_setCell_same (((w1.setCell ⟨(w.heap.size + 1), 0, none⟩ (.int .i64 0)).setCell ⟨(w.heap.size + 1), 1, none⟩ (.bool false)).setCell ⟨(w.heap.size + 1), 2, none⟩ (.bool false)) (w.heap.size + 1) 3 _ _ (.bool false) ks2
  simp only [List.setIfInBounds_toArray, List.set_cons_zero, List.set_cons_succ] at ks3
  simp at kc3
  have kc4 := cell_of_row ((((w1.setCell ⟨(w.heap.size + 1), 0, none⟩ (.int .i64 0)).setCell ⟨(w.heap.size + 1), 1, none⟩ (.bool false)).setCell ⟨(w.heap.size + 1), 2, none⟩ (.bool false)).setCell ⟨(w.heap.size + 1), 3, none⟩ (.bool false)) (w.heap.size + 1) 4 _ _ _ ks3
  have kz4 := frozen_of_row ((((w1.setCell ⟨(w.heap.size + 1), 0, none⟩ (.int .i64 0)).setCell ⟨(w.heap.size + 1), 1, none⟩ (.bool false)).setCell ⟨(w.heap.size + 1), 2, none⟩ (.bool false)).setCell ⟨(w.heap.size + 1), 3, none⟩ (.bool false)) (w.heap.size + 1) 4 _ _ ks3
  have ks4 := heap_setCell_same ((((w1.setCell ⟨(w.heap.size + 1), 0, none⟩ (.int .i64 0)).setCell ⟨(w.heap.size + 1), 1, none⟩ (.bool false)).setCell ⟨(w.heap.size + 1), 2, none⟩ (.bool false)).setCell ⟨(w.heap.size + 1), 3, none⟩ (.bool false)) (w.heap.size + 1) 4 _ _ (.int .i64 0) ks3
  simp only [List.setIfInBounds_toArray, List.set_cons_zero, List.set_cons_succ] at ks4
  simp at kc4
  have kc5 := cell_of_row (((((w1.setCell ⟨(w.heap.size + 1), 0, none⟩ (.int .i64 0)).setCell ⟨(w.heap.size + 1), 1, none⟩ (.bool false)).setCell ⟨(w.heap.size + 1), 2, none⟩ (.bool false)).setCell ⟨(w.heap.size + 1), 3, none⟩ (.bool false)).setCell ⟨(w.heap.size + 1), 4, none⟩ (.int .i64 0)) (w.heap.size + 1) 5 _ _ _ ks4
  have kz5 := frozen_of_row (((((w1.setCell ⟨(w.heap.size + 1), 0, none⟩ (.int .i64 0)).setCell ⟨(w.heap.size + 1), 1, none⟩ (.bool false)).setCell ⟨(w.heap.size + 1), 2, none⟩ (.bool false)).setCell ⟨(w.heap.size + 1), 3, none⟩ (.bool false)).setCell ⟨(w.heap.size + 1), 4, none⟩ (.int .i64 0)) (w.heap.size + 1) 5 _ _ ks4
  have ks5 := heap_setCell_same (((((w1.setCell ⟨(w.heap.size + 1), 0, none⟩ (.int .i64 0)).setCell ⟨(w.heap.size + 1), 1, none⟩ (.bool false)).setCell ⟨(w.heap.size + 1), 2, none⟩ (.bool false)).setCell ⟨(w.heap.size + 1), 3, none⟩ (.bool false)).setCell ⟨(w.heap.size + 1), 4, none⟩ (.int .i64 0)) (w.heap.size + 1) 5 _ _ (.slice none 0 0) ks4
  simp only [List.setIfInBounds_toArray, List.set_cons_zero, List.set_cons_succ] at ks5
  simp at kc5
  have HFIN := Hid.mk ks5
  go_wp2_with fail
  refine bodyPost_ret (noise_results _ _ (w.heap.size + 1) _ _ rfl rfl HFIN.out rfl) rfl ?_
  refine ⟨rfl, ?_⟩
  exact Tch.below HB1.out ((((((((Tch.refl [w.heap.size + 1] w1).setK (by simp) _ _).setK (by simp) _ _).setK (by simp) _ _).setK (by simp) _ _).setK (by simp) _ _).setK (by simp) _ _)) (by simp) (Nat.le_refl _)
set_option maxHeartbeats 8000000 in
set_option maxRecDepth 100000 in
theorem noise_out (f : Fr) (a : Option Addr) (len cap : Nat) (p : Option Addr) (n c : Nat) (zs : List Int) (w : World) (hS : SizesAt w) (hR : RulesAt w) (hby : IsBytes w a len cap f.dt) (hE : frE f = 0) (hn : n ≤ 1000) (hz : NumsA w p n zs) (hin : inAll (bitsL f).length zs = false) :
    Calls Tryz.prog 26 #[frameV f.id f.lo f.fa f.re f.sz a len cap, .slice p n c] w fun e w' => e = .returned (.tuple #[frameV 0 false false false 0 none 0 0, .int .i64 3]) ∧ Below w.heap.size w w' := by
  have hB0 := noiseW_below f a len cap w
  have hZ0 := noiseW_zero f a len cap w
  have hK0 := noiseW_at f a len cap w
  have hsz := noiseW_size f a len cap w
  have a1 := frBits_ok f a len cap _ (hS.kept hB0) (hR.kept hB0) (isBytes_below hby hB0) hE
  have hl1 := bitsL_len f
  have hl2 := preL_len f hE
  obtain ⟨BT, hBT⟩ : ∃ BT : ByteArray, BT = ⟨(bitsL f).toArray⟩ := ⟨_, rfl⟩
  have hBl : BT.data.toList = bitsL f := by rw [hBT]
  have hBs : BT.size = (bitsL f).length := ba_size hBl
  have hBm : BT.size ≤ 900 := by omega
  have HBS := Hid.mk hBs
  rw [← hBT] at a1
  have HIN := Hid.mk hin
  have HA1 := Hid.mk a1
  have HB0 := Hid.mk hB0
  have HZ0 := Hid.mk hZ0
  have HSZ := Hid.mk hsz
  have HN := Hid.mk hz
  have HS := Hid.mk hS
  have HR := Hid.mk hR
  have hcv := fun W => conv_run W BT
  have HCN := Hid.mk (fun W => conv_new W BT)
  have HCB := Hid.mk (fun W => conv_below W BT)
  rw [hBl] at HCN
  obtain ⟨m0, m1, m2, m3, m4, m5⟩ := hK0
  unfold noiseW frameC at HA1 HB0 HZ0 HSZ m0 m1 m2 m3 m4 m5
  unfold frameV at HA1 ⊢
  clear a1 hB0 hZ0 hsz hS hR hby hz hin hBT hBl hBs hl1 hl2 hE
  go_enter Tryz.func26, Tryz.ntmps26
  go_wp2_with fail
  refine HA1.out.mono ?_
  rintro e w1 ⟨rfl, hb1⟩
  have HZ1 := Hid.mk ((hb1.block (w.heap.size + 1) (by have := HSZ.out; omega)).trans HZ0.out)
  have HL1 := Hid.mk (show w.heap.size + 1 < w1.heap.size by have h1 := HSZ.out; have h2 := hb1.size; omega)
  have HB1 := Hid.mk (bl2 HB0.out hb1)
  clear hb1 HB0 HZ0 HSZ m0 m1 m2 m3 m4 m5
  go_wp2_with fail
  go_loopw [30] (fun i wr => ∃ k : Nat, k ≤ n ∧ i = .int .i64 k ∧ Hid (ConvAt wr w1.heap.size (turnK (bitsL f) zs k)) ∧ Hid (inK (bitsL f).length zs k) ∧ Hid (Below w1.heap.size w1 wr)) (fun i _ => n - (intOf i).toNat)
  case atStart => exact ⟨0, Nat.zero_le _, rfl, Hid.mk (HCN.out w1), Hid.mk (fun j hj => absurd hj (Nat.not_lt_zero _)), Hid.mk (HCB.out w1)⟩
  case round =>
    clear hcv HCN HCB HA1
    obtain ⟨k, hk, rfl, HC, HK, HB⟩ := hrel
    have HBw := Hid.mk (bl2 HB1.out HB.out)
    by_cases hlt : k < n
    · have hlt' : (k : Int) < (n : Int) := by omega
      have hkl : k < zs.length := by rw [HN.out.1]; exact hlt
      cases p with
      | none => exact absurd (HN.out.2.1 rfl) (by omega)
      | some x =>
        have cz := cell_kept HBw.out (HN.out.2.2 x rfl k hlt)
        by_cases hzi : 0 ≤ zs.getD k 0 ∧ zs.getD k 0 < ((bitsL f).length : Int)
        · obtain ⟨i, hi⟩ : ∃ i : Nat, zs.getD k 0 = (i : Int) := ⟨(zs.getD k 0).toNat, by omega⟩
          have hib : i < (turnK (bitsL f) zs k).length := by rw [turnK_len]; omega
          have HKn := Hid.mk (inK_next HK.out hzi.1 hzi.2)
          rw [hi] at cz hzi
          have hiB : i < BT.size := by rw [HBS.out]; omega
          have hiB' : (i : Int) < (BT.size : Int) := by omega
          obtain ⟨cc, cf⟩ := HC.out.2 i hib
          have HCS := Hid.mk (HC.out.set i hib (otb ((turnK (bitsL f) zs k).getD i 0)))
          have htn : (turnK (bitsL f) zs k).set i (otb ((turnK (bitsL f) zs k).getD i 0)) = turnK (bitsL f) zs (k + 1) := by
            rw [turnK, hi, Int.toNat_natCast]
          rw [htn] at HCS
          generalize (turnK (bitsL f) zs k).getD i 0 = ch at *
          have HBn := Hid.mk (Tch.below HB.out ((Tch.refl [w1.heap.size] wr).setK (g := w1.heap.size) (by simp) i (.int .u8 (otb ch).toNat)) (by simp) (Nat.le_refl _))
          clear htn hib hzi hi hkl
          go_wp2_with fail
          refine (turned_byte ch _).mono ?_
          rintro e w2 ⟨rfl, hw2⟩
          subst hw2
          go_wp2_with fail
          go_roundw
          case rel => exact ⟨k + 1, by omega, by go_num, HCS, HKn, HBn⟩
          case measure => simp [intOf]; omega
        · have hA1 := (HB.out.block (w.heap.size + 1) HL1.out).trans HZ1.out
          have hzB : ¬ (0 ≤ zs.getD k 0 ∧ zs.getD k 0 < (BT.size : Int)) := by rw [HBS.out]; exact hzi
          generalize zs.getD k 0 = zk at *
          clear hzi hkl HC HK
          have kc0 := cell_of_row wr (w.heap.size + 1) 0 _ _ _ hA1
          have kz0 := frozen_of_row wr (w.heap.size + 1) 0 _ _ hA1
          have ks0 := heap_setCell_same wr (w.heap.size + 1) 0 _ _ (.int .i64 0) hA1
          simp only [List.setIfInBounds_toArray, List.set_cons_zero] at ks0
          simp at kc0
          have kc1 := cell_of_row (wr.setCell ⟨(w.heap.size + 1), 0, none⟩ (.int .i64 0)) (w.heap.size + 1) 1 _ _ _ ks0
          have kz1 := frozen_of_row (wr.setCell ⟨(w.heap.size + 1), 0, none⟩ (.int .i64 0)) (w.heap.size + 1) 1 _ _ ks0
          have ks1 := heap_setCell_same (wr.setCell ⟨(w.heap.size + 1), 0, none⟩ (.int .i64 0)) (w.heap.size + 1) 1 _ _ (.bool false) ks0
          simp only [List.setIfInBounds_toArray, List.set_cons_zero, List.set_cons_succ] at ks1
          simp at kc1
          have kc2 := cell_of_row ((wr.setCell ⟨(w.heap.size + 1), 0, none⟩ (.int .i64 0)).setCell ⟨(w.heap.size + 1), 1, none⟩ (.bool false)) (w.heap.size + 1) 2 _ _ _ ks1
          have kz2 := frozen_of_row ((wr.setCell ⟨(w.heap.size + 1), 0, none⟩ (.int .i64 0)).setCell ⟨(w.heap.size + 1), 1, none⟩ (.bool false)) (w.heap.size + 1) 2 _ _ ks1
          have ks2 := heap_setCell_same ((wr.setCell ⟨(w.heap.size + 1), 0, none⟩ (.int .i64 0)).setCell ⟨(w.heap.size + 1), 1, none⟩ (.bool false)) (w.heap.size + 1) 2 _ _ (.bool false) ks1
          simp only [List.setIfInBounds_toArray, List.set_cons_zero, List.set_cons_succ] at ks2
          simp at kc2
          have kc3 := cell_of_row (((wr.setCell ⟨(w.heap.size + 1), 0, none⟩ (.int .i64 0)).setCell ⟨(w.heap.size + 1), 1, none⟩ (.bool false)).setCell ⟨(w.heap.size + 1), 2, none⟩ (.bool false)) (w.heap.size + 1) 3 _ _ _ ks2
          have kz3 := frozen_of_row (((wr.setCell ⟨(w.heap.size + 1), 0, none⟩ (.int .i64 0)).setCell ⟨(w.heap.size + 1), 1, none⟩ (.bool false)).setCell ⟨(w.heap.size + 1), 2, none⟩ (.bool false)) (w.heap.size + 1) 3 _ _ ks2
          have ks3 := heap_setCell_same (((wr.setCell ⟨(w.heap.size + 1), 0, none⟩ (.int .i64 0)).setCell ⟨(w.heap.size + 1), 1, none⟩ (.bool false)).setCell ⟨(w.heap.size + 1), 2, none⟩ (.bool false)) (w.heap.size + 1) 3 _ _ (.bool false) ks2
          simp only [List.setIfInBounds_toArray, List.set_cons_zero, List.set_cons_succ] at ks3
          simp at kc3
          have kc4 := cell_of_row ((((wr.setCell ⟨(w.heap.size + 1), 0, none⟩ (.int .i64 0)).setCell ⟨(w.heap.size + 1), 1, none⟩ (.bool false)).setCell ⟨(w.heap.size + 1), 2, none⟩ (.bool false)).setCell ⟨(w.heap.size + 1), 3, none⟩ (.bool false)) (w.heap.size + 1) 4 _ _ _ ks3
          have kz4 := frozen_of_row ((((wr.setCell ⟨(w.heap.size + 1), 0, none⟩ (.int .i64 0)).setCell ⟨(w.heap.size + 1), 1, none⟩ (.bool false)).setCell ⟨(w.heap.size + 1), 2, none⟩ (.bool false)).setCell ⟨(w.heap.size + 1), 3, none⟩ (.bool false)) (w.heap.size + 1) 4 _ _ ks3
          have ks4 := heap_setCell_same ((((wr.setCell ⟨(w.heap.size + 1), 0, none⟩ (.int .i64 0)).setCell ⟨(w.heap.size + 1), 1, none⟩ (.bool false)).setCell ⟨(w.heap.size + 1), 2, none⟩ (.bool false)).setCell ⟨(w.heap.size + 1), 3, none⟩ (.bool false)) (w.heap.size + 1) 4 _ _ (.int .i64 0) ks3
          simp only [List.setIfInBounds_toArray, List.set_cons_zero, List.set_cons_succ] at ks4
          simp at kc4
          have kc5 := cell_of_row (((((wr.setCell ⟨(w.heap.size + 1), 0, none⟩ (.int .i64 0)).setCell ⟨(w.heap.size + 1), 1, none⟩ (.bool false)).setCell ⟨(w.heap.size + 1), 2, none⟩ (.bool false)).setCell ⟨(w.heap.size + 1), 3, none⟩ (.bool false)).setCell ⟨(w.heap.size + 1), 4, none⟩ (.int .i64 0)) (w.heap.size + 1) 5 _ _ _ ks4
          have kz5 := frozen_of_row (((((wr.setCell ⟨(w.heap.size + 1), 0, none⟩ (.int .i64 0)).setCell ⟨(w.heap.size + 1), 1, none⟩ (.bool false)).setCell ⟨(w.heap.size + 1), 2, none⟩ (.bool false)).setCell ⟨(w.heap.size + 1), 3, none⟩ (.bool false)).setCell ⟨(w.heap.size + 1), 4, none⟩ (.int .i64 0)) (w.heap.size + 1) 5 _ _ ks4
          have ks5 := heap_setCell_same (((((wr.setCell ⟨(w.heap.size + 1), 0, none⟩ (.int .i64 0)).setCell ⟨(w.heap.size + 1), 1, none⟩ (.bool false)).setCell ⟨(w.heap.size + 1), 2, none⟩ (.bool false)).setCell ⟨(w.heap.size + 1), 3, none⟩ (.bool false)).setCell ⟨(w.heap.size + 1), 4, none⟩ (.int .i64 0)) (w.heap.size + 1) 5 _ _ (.slice none 0 0) ks4
          simp only [List.setIfInBounds_toArray, List.set_cons_zero, List.set_cons_succ] at ks5
          simp at kc5
          have HFIN := Hid.mk ks5
          by_cases h0 : zk < 0
          · go_wp2_with fail
            refine bodyPost_ret (noise_results _ _ (w.heap.size + 1) _ _ rfl rfl HFIN.out rfl) rfl ?_
            refine ⟨rfl, ?_⟩
            exact Tch.below HBw.out ((((((((Tch.refl [w.heap.size + 1] wr).setK (by simp) _ _).setK (by simp) _ _).setK (by simp) _ _).setK (by simp) _ _).setK (by simp) _ _).setK (by simp) _ _)) (by simp) (Nat.le_refl _)
          · have h1 : (BT.size : Int) ≤ zk := by omega
            have h0' : 0 ≤ zk := by omega
            clear hzB
            go_wp2_with fail
            refine bodyPost_ret (noise_results _ _ (w.heap.size + 1) _ _ rfl rfl HFIN.out rfl) rfl ?_
            refine ⟨rfl, ?_⟩
            exact Tch.below HBw.out ((((((((Tch.refl [w.heap.size + 1] wr).setK (by simp) _ _).setK (by simp) _ _).setK (by simp) _ _).setK (by simp) _ _).setK (by simp) _ _).setK (by simp) _ _)) (by simp) (Nat.le_refl _)
    · exfalso
      have e : k = zs.length := by have := HN.out.1; omega
      have h1 := HK.out
      rw [e] at h1
      have h2 := inAll_of h1
      rw [HIN.out] at h2
      cases h2
set_option maxHeartbeats 8000000 in
set_option maxRecDepth 100000 in
theorem noise_no (f : Fr) (a : Option Addr) (len cap : Nat) (p : Option Addr) (n c : Nat) (zs : List Int) (w : World) (hS : SizesAt w) (hR : RulesAt w) (hby : IsBytes w a len cap f.dt) (hE : frE f = 0) (hn : n ≤ 1000) (hz : NumsA w p n zs) (hin : inAll (bitsL f).length zs = true) (hr : (rdE (turnK (bitsL f) zs zs.length)).fl ≠ 0) :
    Calls Tryz.prog 26 #[frameV f.id f.lo f.fa f.re f.sz a len cap, .slice p n c] w fun e w' => e = .returned (.tuple #[frameV 0 false false false 0 none 0 0, .int .i64 (rdE (turnK (bitsL f) zs zs.length)).fl]) ∧ Below w.heap.size w w' := by
  have hB0 := noiseW_below f a len cap w
  have hZ0 := noiseW_zero f a len cap w
  have hK0 := noiseW_at f a len cap w
  have hsz := noiseW_size f a len cap w
  have a1 := frBits_ok f a len cap _ (hS.kept hB0) (hR.kept hB0) (isBytes_below hby hB0) hE
  have hl1 := bitsL_len f
  have hl2 := preL_len f hE
  obtain ⟨BT, hBT⟩ : ∃ BT : ByteArray, BT = ⟨(bitsL f).toArray⟩ := ⟨_, rfl⟩
  have hBl : BT.data.toList = bitsL f := by rw [hBT]
  have hBs : BT.size = (bitsL f).length := ba_size hBl
  have hBm : BT.size ≤ 900 := by omega
  have HBS := Hid.mk hBs
  rw [← hBT] at a1
  obtain ⟨RT, hRT⟩ : ∃ RT : ByteArray, RT = ⟨(turnK (bitsL f) zs zs.length).toArray⟩ := ⟨_, rfl⟩
  have hRl : RT.data.toList = turnK (bitsL f) zs zs.length := by rw [hRT]
  have hck : checkE RT.data.toList = 0 := by rw [hRl]; exact checkE_row (turnK_row _ _ (bitsL_row f) _) (by rw [turnK_len]; omega)
  have a2 := fun W h1 h2 => read_ok RT W h1 h2 hck
  rw [hRl] at a2
  have HA2 := Hid.mk (fun W h1 h2 => (a2 W h1 h2).mono (fun _ _ h => And.intro (h.1 hr) h.2.2))
  have hne : ((rdE (turnK (bitsL f) zs zs.length)).fl != 0) = true := by simpa using hr
  generalize (rdE (turnK (bitsL f) zs zs.length)).fl = ce at *
  have HRT := Hid.mk hRT
  clear a2 hRT hRl hck hr
  unfold frameV at HA2
  have HIN := Hid.mk hin
  have HA1 := Hid.mk a1
  have HB0 := Hid.mk hB0
  have HZ0 := Hid.mk hZ0
  have HSZ := Hid.mk hsz
  have HN := Hid.mk hz
  have HS := Hid.mk hS
  have HR := Hid.mk hR
  have hcv := fun W => conv_run W BT
  have HCN := Hid.mk (fun W => conv_new W BT)
  have HCB := Hid.mk (fun W => conv_below W BT)
  rw [hBl] at HCN
  obtain ⟨m0, m1, m2, m3, m4, m5⟩ := hK0
  unfold noiseW frameC at HA1 HB0 HZ0 HSZ m0 m1 m2 m3 m4 m5
  unfold frameV at HA1 ⊢
  clear a1 hB0 hZ0 hsz hS hR hby hz hin hBT hBl hBs hl1 hl2 hE
  go_enter Tryz.func26, Tryz.ntmps26
  go_wp2_with fail
  refine HA1.out.mono ?_
  rintro e w1 ⟨rfl, hb1⟩
  have HZ1 := Hid.mk ((hb1.block (w.heap.size + 1) (by have := HSZ.out; omega)).trans HZ0.out)
  have HL1 := Hid.mk (show w.heap.size + 1 < w1.heap.size by have h1 := HSZ.out; have h2 := hb1.size; omega)
  have HB1 := Hid.mk (bl2 HB0.out hb1)
  clear hb1 HB0 HZ0 HSZ m0 m1 m2 m3 m4 m5
  go_wp2_with fail
  go_loopw [30] (fun i wr => ∃ k : Nat, k ≤ n ∧ i = .int .i64 k ∧ Hid (ConvAt wr w1.heap.size (turnK (bitsL f) zs k)) ∧ Hid (inK (bitsL f).length zs k) ∧ Hid (Below w1.heap.size w1 wr)) (fun i _ => n - (intOf i).toNat)
  case atStart => exact ⟨0, Nat.zero_le _, rfl, Hid.mk (HCN.out w1), Hid.mk (fun j hj => absurd hj (Nat.not_lt_zero _)), Hid.mk (HCB.out w1)⟩
  case round =>
    clear hcv HCN HCB HA1
    obtain ⟨k, hk, rfl, HC, HK, HB⟩ := hrel
    have HBw := Hid.mk (bl2 HB1.out HB.out)
    by_cases hlt : k < n
    · have hlt' : (k : Int) < (n : Int) := by omega
      have hkl : k < zs.length := by rw [HN.out.1]; exact hlt
      cases p with
      | none => exact absurd (HN.out.2.1 rfl) (by omega)
      | some x =>
        have cz := cell_kept HBw.out (HN.out.2.2 x rfl k hlt)
        by_cases hzi : 0 ≤ zs.getD k 0 ∧ zs.getD k 0 < ((bitsL f).length : Int)
        · obtain ⟨i, hi⟩ : ∃ i : Nat, zs.getD k 0 = (i : Int) := ⟨(zs.getD k 0).toNat, by omega⟩
          have hib : i < (turnK (bitsL f) zs k).length := by rw [turnK_len]; omega
          have HKn := Hid.mk (inK_next HK.out hzi.1 hzi.2)
          rw [hi] at cz hzi
          have hiB : i < BT.size := by rw [HBS.out]; omega
          have hiB' : (i : Int) < (BT.size : Int) := by omega
          obtain ⟨cc, cf⟩ := HC.out.2 i hib
          have HCS := Hid.mk (HC.out.set i hib (otb ((turnK (bitsL f) zs k).getD i 0)))
          have htn : (turnK (bitsL f) zs k).set i (otb ((turnK (bitsL f) zs k).getD i 0)) = turnK (bitsL f) zs (k + 1) := by
            rw [turnK, hi, Int.toNat_natCast]
          rw [htn] at HCS
          generalize (turnK (bitsL f) zs k).getD i 0 = ch at *
          have HBn := Hid.mk (Tch.below HB.out ((Tch.refl [w1.heap.size] wr).setK (g := w1.heap.size) (by simp) i (.int .u8 (otb ch).toNat)) (by simp) (Nat.le_refl _))
          clear htn hib hzi hi hkl
          go_wp2_with fail
          refine (turned_byte ch _).mono ?_
          rintro e w2 ⟨rfl, hw2⟩
          subst hw2
          go_wp2_with fail
          go_roundw
          case rel => exact ⟨k + 1, by omega, by go_num, HCS, HKn, HBn⟩
          case measure => simp [intOf]; omega
        · exact absurd HIN.out (by rw [inAll_not hkl hzi]; decide)
    · have e : k = zs.length := by have := HN.out.1; omega
      have hcb := fun cap => HC.out.back cap BT.size (by rw [turnK_len, HBS.out])
      rw [e, ← HRT.out] at hcb
      clear HC HK
      go_wp2_with fail
      refine (HA2.out _ (HS.out.kept HBw.out) (HR.out.kept HBw.out)).mono ?_
      rintro e w3 ⟨rfl, hb3⟩
      have hbx : Below w3.heap.size w3 (w3.alloc (.cells #[.int .i64 0, .bool false, .bool false, .bool false, .int .i64 0, .slice none 0 0] 24)) := (Below.refl _ _).alloc (Nat.le_refl _) _
      obtain ⟨q0, q1, q2, q3, q4, q5⟩ := FrAt.box w3 0 false false false 0 none 0 0
      unfold frameC at q0 q1 q2 q3 q4 q5
      have hB3 := bl2 hb3 hbx
      have hA3 := (hB3.block (w.heap.size + 1) (by have h1 := HL1.out; have h2 := HB.out.size; omega)).trans ((HB.out.block (w.heap.size + 1) HL1.out).trans HZ1.out)
      have HB3 := Hid.mk (bl2 HBw.out hB3)
      clear hb3 hbx hB3
      have kc0 := cell_of_row (w3.alloc (.cells #[.int .i64 0, .bool false, .bool false, .bool false, .int .i64 0, .slice none 0 0] 24)) (w.heap.size + 1) 0 _ _ _ hA3
      have kz0 := frozen_of_row (w3.alloc (.cells #[.int .i64 0, .bool false, .bool false, .bool false, .int .i64 0, .slice none 0 0] 24)) (w.heap.size + 1) 0 _ _ hA3
      have ks0 := heap_setCell_same (w3.alloc (.cells #[.int .i64 0, .bool false, .bool false, .bool false, .int .i64 0, .slice none 0 0] 24)) (w.heap.size + 1) 0 _ _ (.int .i64 0) hA3
      simp only [List.setIfInBounds_toArray, List.set_cons_zero] at ks0
      simp at kc0
      have kc1 := cell_of_row ((w3.alloc (.cells #[.int .i64 0, .bool false, .bool false, .bool false, .int .i64 0, .slice none 0 0] 24)).setCell ⟨(w.heap.size + 1), 0, none⟩ (.int .i64 0)) (w.heap.size + 1) 1 _ _ _ ks0
      have kz1 := frozen_of_row ((w3.alloc (.cells #[.int .i64 0, .bool false, .bool false, .bool false, .int .i64 0, .slice none 0 0] 24)).setCell ⟨(w.heap.size + 1), 0, none⟩ (.int .i64 0)) (w.heap.size + 1) 1 _ _ ks0
      have ks1 := heap_setCell_same ((w3.alloc (.cells #[.int .i64 0, .bool false, .bool false, .bool false, .int .i64 0, .slice none 0 0] 24)).setCell ⟨(w.heap.size + 1), 0, none⟩ (.int .i64 0)) (w.heap.size + 1) 1 _ _ (.bool false) ks0
      simp only [List.setIfInBounds_toArray, List.set_cons_zero, List.set_cons_succ] at ks1
      simp at kc1
      have kc2 := cell_of_row (((w3.alloc (.cells #[.int .i64 0, .bool false, .bool false, .bool false, .int .i64 0, .slice none 0 0] 24)).setCell ⟨(w.heap.size + 1), 0, none⟩ (.int .i64 0)).setCell ⟨(w.heap.size + 1), 1, none⟩ (.bool false)) (w.heap.size + 1) 2 _ _ _ ks1
      have kz2 := frozen_of_row (((w3.alloc (.cells #[.int .i64 0, .bool false, .bool false, .bool false, .int .i64 0, .slice none 0 0] 24)).setCell ⟨(w.heap.size + 1), 0, none⟩ (.int .i64 0)).setCell ⟨(w.heap.size + 1), 1, none⟩ (.bool false)) (w.heap.size + 1) 2 _ _ ks1
      have ks2 := heap_setCell_same (((w3.alloc (.cells #[.int .i64 0, .bool false, .bool false, .bool false, .int .i64 0, .slice none 0 0] 24)).setCell ⟨(w.heap.size + 1), 0, none⟩ (.int .i64 0)).setCell ⟨(w.heap.size + 1), 1, none⟩ (.bool false)) (w.heap.size + 1) 2 _ _ (.bool false) ks1
      simp only [List.setIfInBounds_toArray, List.set_cons_zero, List.set_cons_succ] at ks2
      simp at kc2
      have kc3 := cell_of_row ((((w3.alloc (.cells #[.int .i64 0, .bool false, .bool false, .bool false, .int .i64 0, .slice none 0 0] 24)).setCell ⟨(w.heap.size + 1), 0, none⟩ (.int .i64 0)).setCell ⟨(w.heap.size + 1), 1, none⟩ (.bool false)).setCell ⟨(w.heap.size + 1), 2, none⟩ (.bool false)) (w.heap.size + 1) 3 _ _ _ ks2
      have kz3 := frozen_of_row ((((w3.alloc (.cells #[.int .i64 0, .bool false, .bool false, .bool false, .int .i64 0, .slice none 0 0] 24)).setCell ⟨(w.heap.size + 1), 0, none⟩ (.int .i64 0)).setCell ⟨(w.heap.size + 1), 1, none⟩ (.bool false)).setCell ⟨(w.heap.size + 1), 2, none⟩ (.bool false)) (w.heap.size + 1) 3 _ _ ks2
      have ks3 := heap_setCell_same ((((w3.alloc (.cells #[.int .i64 0, .bool false, .bool false, .bool false, .int .i64 0, .slice none 0 0] 24)).setCell ⟨(w.heap.size + 1), 0, none⟩ (.int .i64 0)).setCell ⟨(w.heap.size + 1), 1, none⟩ (.bool false)).setCell ⟨(w.heap.size + 1), 2, none⟩ (.bool false)) (w.heap.size + 1) 3 _ _ (.bool false) ks2
      simp only [List.setIfInBounds_toArray, List.set_cons_zero, List.set_cons_succ] at ks3
      simp at kc3
      have kc4 := cell_of_row (((((w3.alloc (.cells #[.int .i64 0, .bool false, .bool false, .bool false, .int .i64 0, .slice none 0 0] 24)).setCell ⟨(w.heap.size + 1), 0, none⟩ (.int .i64 0)).setCell ⟨(w.heap.size + 1), 1, none⟩ (.bool false)).setCell ⟨(w.heap.size + 1), 2, none⟩ (.bool false)).setCell ⟨(w.heap.size + 1), 3, none⟩ (.bool false)) (w.heap.size + 1) 4 _ _ _ ks3
      have kz4 := frozen_of_row (((((w3.alloc (.cells #[.int .i64 0, .bool false, .bool false, .bool false, .int .i64 0, .slice none 0 0] 24)).setCell ⟨(w.heap.size + 1), 0, none⟩ (.int .i64 0)).setCell ⟨(w.heap.size + 1), 1, none⟩ (.bool false)).setCell ⟨(w.heap.size + 1), 2, none⟩ (.bool false)).setCell ⟨(w.heap.size + 1), 3, none⟩ (.bool false)) (w.heap.size + 1) 4 _ _ ks3
      have ks4 := heap_setCell_same (((((w3.alloc (.cells #[.int .i64 0, .bool false, .bool false, .bool false, .int .i64 0, .slice none 0 0] 24)).setCell ⟨(w.heap.size + 1), 0, none⟩ (.int .i64 0)).setCell ⟨(w.heap.size + 1), 1, none⟩ (.bool false)).setCell ⟨(w.heap.size + 1), 2, none⟩ (.bool false)).setCell ⟨(w.heap.size + 1), 3, none⟩ (.bool false)) (w.heap.size + 1) 4 _ _ (.int .i64 0) ks3
      simp only [List.setIfInBounds_toArray, List.set_cons_zero, List.set_cons_succ] at ks4
      simp at kc4
      have kc5 := cell_of_row ((((((w3.alloc (.cells #[.int .i64 0, .bool false, .bool false, .bool false, .int .i64 0, .slice none 0 0] 24)).setCell ⟨(w.heap.size + 1), 0, none⟩ (.int .i64 0)).setCell ⟨(w.heap.size + 1), 1, none⟩ (.bool false)).setCell ⟨(w.heap.size + 1), 2, none⟩ (.bool false)).setCell ⟨(w.heap.size + 1), 3, none⟩ (.bool false)).setCell ⟨(w.heap.size + 1), 4, none⟩ (.int .i64 0)) (w.heap.size + 1) 5 _ _ _ ks4
      have kz5 := frozen_of_row ((((((w3.alloc (.cells #[.int .i64 0, .bool false, .bool false, .bool false, .int .i64 0, .slice none 0 0] 24)).setCell ⟨(w.heap.size + 1), 0, none⟩ (.int .i64 0)).setCell ⟨(w.heap.size + 1), 1, none⟩ (.bool false)).setCell ⟨(w.heap.size + 1), 2, none⟩ (.bool false)).setCell ⟨(w.heap.size + 1), 3, none⟩ (.bool false)).setCell ⟨(w.heap.size + 1), 4, none⟩ (.int .i64 0)) (w.heap.size + 1) 5 _ _ ks4
      have ks5 := heap_setCell_same ((((((w3.alloc (.cells #[.int .i64 0, .bool false, .bool false, .bool false, .int .i64 0, .slice none 0 0] 24)).setCell ⟨(w.heap.size + 1), 0, none⟩ (.int .i64 0)).setCell ⟨(w.heap.size + 1), 1, none⟩ (.bool false)).setCell ⟨(w.heap.size + 1), 2, none⟩ (.bool false)).setCell ⟨(w.heap.size + 1), 3, none⟩ (.bool false)).setCell ⟨(w.heap.size + 1), 4, none⟩ (.int .i64 0)) (w.heap.size + 1) 5 _ _ (.slice none 0 0) ks4
      simp only [List.setIfInBounds_toArray, List.set_cons_zero, List.set_cons_succ] at ks5
      simp at kc5
      have HFIN := Hid.mk ks5
      go_wp2_with fail
      refine bodyPost_ret (noise_results _ _ (w.heap.size + 1) _ _ rfl rfl HFIN.out rfl) rfl ?_
      refine ⟨rfl, ?_⟩
      exact Tch.below HB3.out ((((((((Tch.refl [w.heap.size + 1] (w3.alloc (.cells #[.int .i64 0, .bool false, .bool false, .bool false, .int .i64 0, .slice none 0 0] 24))).setK (by simp) _ _).setK (by simp) _ _).setK (by simp) _ _).setK (by simp) _ _).setK (by simp) _ _).setK (by simp) _ _)) (by simp) (Nat.le_refl _)
set_option maxHeartbeats 8000000 in
set_option maxRecDepth 100000 in
theorem noise_ok (f : Fr) (a : Option Addr) (len cap : Nat) (p : Option Addr) (n c : Nat) (zs : List Int) (w : World) (hS : SizesAt w) (hR : RulesAt w) (hby : IsBytes w a len cap f.dt) (hE : frE f = 0) (hn : n ≤ 1000) (hz : NumsA w p n zs) (hin : inAll (bitsL f).length zs = true) (hr : (rdE (turnK (bitsL f) zs zs.length)).fl = 0) :
    Calls Tryz.prog 26 #[frameV f.id f.lo f.fa f.re f.sz a len cap, .slice p n c] w fun e w' => ∃ ga gn gc, e = .returned (.tuple #[frameV (rdF (turnK (bitsL f) zs zs.length)).id (rdF (turnK (bitsL f) zs zs.length)).lo (rdF (turnK (bitsL f) zs zs.length)).fa (rdF (turnK (bitsL f) zs zs.length)).re (rdF (turnK (bitsL f) zs zs.length)).sz ga gn gc, .int .i64 0]) ∧ IsBytes w' ga gn gc (rdF (turnK (bitsL f) zs zs.length)).dt ∧ Below w.heap.size w w' := by
  have hB0 := noiseW_below f a len cap w
  have hZ0 := noiseW_zero f a len cap w
  have hK0 := noiseW_at f a len cap w
  have hsz := noiseW_size f a len cap w
  have a1 := frBits_ok f a len cap _ (hS.kept hB0) (hR.kept hB0) (isBytes_below hby hB0) hE
  have hl1 := bitsL_len f
  have hl2 := preL_len f hE
  obtain ⟨BT, hBT⟩ : ∃ BT : ByteArray, BT = ⟨(bitsL f).toArray⟩ := ⟨_, rfl⟩
  have hBl : BT.data.toList = bitsL f := by rw [hBT]
  have hBs : BT.size = (bitsL f).length := ba_size hBl
  have hBm : BT.size ≤ 900 := by omega
  have HBS := Hid.mk hBs
  rw [← hBT] at a1
  obtain ⟨RT, hRT⟩ : ∃ RT : ByteArray, RT = ⟨(turnK (bitsL f) zs zs.length).toArray⟩ := ⟨_, rfl⟩
  have hRl : RT.data.toList = turnK (bitsL f) zs zs.length := by rw [hRT]
  have hck : checkE RT.data.toList = 0 := by rw [hRl]; exact checkE_row (turnK_row _ _ (bitsL_row f) _) (by rw [turnK_len]; omega)
  have a2 := fun W h1 h2 => read_ok RT W h1 h2 hck
  rw [hRl] at a2
  have HA2 := Hid.mk (fun W h1 h2 => (a2 W h1 h2).mono (fun _ _ h => And.intro (h.2.1 hr) h.2.2))
  generalize rdF (turnK (bitsL f) zs zs.length) = G at *
  generalize ((rdE (turnK (bitsL f) zs zs.length)).u : Int) = cu at *
  obtain ⟨Gid, Glo, Gfa, Gre, Gsz, Gdt⟩ := G
  simp only at HA2 ⊢
  have HRT := Hid.mk hRT
  clear a2 hRT hRl hck hr
  unfold frameV at HA2
  have HIN := Hid.mk hin
  have HA1 := Hid.mk a1
  have HB0 := Hid.mk hB0
  have HZ0 := Hid.mk hZ0
  have HSZ := Hid.mk hsz
  have HN := Hid.mk hz
  have HS := Hid.mk hS
  have HR := Hid.mk hR
  have hcv := fun W => conv_run W BT
  have HCN := Hid.mk (fun W => conv_new W BT)
  have HCB := Hid.mk (fun W => conv_below W BT)
  rw [hBl] at HCN
  obtain ⟨m0, m1, m2, m3, m4, m5⟩ := hK0
  unfold noiseW frameC at HA1 HB0 HZ0 HSZ m0 m1 m2 m3 m4 m5
  unfold frameV at HA1 ⊢
  clear a1 hB0 hZ0 hsz hS hR hby hz hin hBT hBl hBs hl1 hl2 hE
  go_enter Tryz.func26, Tryz.ntmps26
  go_wp2_with fail
  refine HA1.out.mono ?_
  rintro e w1 ⟨rfl, hb1⟩
  have HZ1 := Hid.mk ((hb1.block (w.heap.size + 1) (by have := HSZ.out; omega)).trans HZ0.out)
  have HL1 := Hid.mk (show w.heap.size + 1 < w1.heap.size by have h1 := HSZ.out; have h2 := hb1.size; omega)
  have HB1 := Hid.mk (bl2 HB0.out hb1)
  clear hb1 HB0 HZ0 HSZ m0 m1 m2 m3 m4 m5
  go_wp2_with fail
  go_loopw [30] (fun i wr => ∃ k : Nat, k ≤ n ∧ i = .int .i64 k ∧ Hid (ConvAt wr w1.heap.size (turnK (bitsL f) zs k)) ∧ Hid (inK (bitsL f).length zs k) ∧ Hid (Below w1.heap.size w1 wr)) (fun i _ => n - (intOf i).toNat)
  case atStart => exact ⟨0, Nat.zero_le _, rfl, Hid.mk (HCN.out w1), Hid.mk (fun j hj => absurd hj (Nat.not_lt_zero _)), Hid.mk (HCB.out w1)⟩
  case round =>
    clear hcv HCN HCB HA1
    obtain ⟨k, hk, rfl, HC, HK, HB⟩ := hrel
    have HBw := Hid.mk (bl2 HB1.out HB.out)
    by_cases hlt : k < n
    · have hlt' : (k : Int) < (n : Int) := by omega
      have hkl : k < zs.length := by rw [HN.out.1]; exact hlt
      cases p with
      | none => exact absurd (HN.out.2.1 rfl) (by omega)
      | some x =>
        have cz := cell_kept HBw.out (HN.out.2.2 x rfl k hlt)
        by_cases hzi : 0 ≤ zs.getD k 0 ∧ zs.getD k 0 < ((bitsL f).length : Int)
        · obtain ⟨i, hi⟩ : ∃ i : Nat, zs.getD k 0 = (i : Int) := ⟨(zs.getD k 0).toNat, by omega⟩
          have hib : i < (turnK (bitsL f) zs k).length := by rw [turnK_len]; omega
          have HKn := Hid.mk (inK_next HK.out hzi.1 hzi.2)
          rw [hi] at cz hzi
          have hiB : i < BT.size := by rw [HBS.out]; omega
          have hiB' : (i : Int) < (BT.size : Int) := by omega
          obtain ⟨cc, cf⟩ := HC.out.2 i hib
          have HCS := Hid.mk (HC.out.set i hib (otb ((turnK (bitsL f) zs k).getD i 0)))
          have htn : (turnK (bitsL f) zs k).set i (otb ((turnK (bitsL f) zs k).getD i 0)) = turnK (bitsL f) zs (k + 1) := by
            rw [turnK, hi, Int.toNat_natCast]
          rw [htn] at HCS
          generalize (turnK (bitsL f) zs k).getD i 0 = ch at *
          have HBn := Hid.mk (Tch.below HB.out ((Tch.refl [w1.heap.size] wr).setK (g := w1.heap.size) (by simp) i (.int .u8 (otb ch).toNat)) (by simp) (Nat.le_refl _))
          clear htn hib hzi hi hkl
          go_wp2_with fail
          refine (turned_byte ch _).mono ?_
          rintro e w2 ⟨rfl, hw2⟩
          subst hw2
          go_wp2_with fail
          go_roundw
          case rel => exact ⟨k + 1, by omega, by go_num, HCS, HKn, HBn⟩
          case measure => simp [intOf]; omega
        · exact absurd HIN.out (by rw [inAll_not hkl hzi]; decide)
    · have e : k = zs.length := by have := HN.out.1; omega
      have hcb := fun cap => HC.out.back cap BT.size (by rw [turnK_len, HBS.out])
      rw [e, ← HRT.out] at hcb
      clear HC HK
      go_wp2_with fail
      refine (HA2.out _ (HS.out.kept HBw.out) (HR.out.kept HBw.out)).mono ?_
      rintro e w3 ⟨⟨ga, gn, gc, rfl, hyg⟩, hb3⟩
      have hbx : Below w3.heap.size w3 (w3.alloc (.cells #[.int .i64 Gid, .bool Glo, .bool Gfa, .bool Gre, .int .i64 Gsz, .slice ga gn gc] 24)) := (Below.refl _ _).alloc (Nat.le_refl _) _
      obtain ⟨q0, q1, q2, q3, q4, q5⟩ := FrAt.box w3 Gid Glo Gfa Gre Gsz ga gn gc
      unfold frameC at q0 q1 q2 q3 q4 q5
      have hB3 := bl2 hb3 hbx
      have hA3 := (hB3.block (w.heap.size + 1) (by have h1 := HL1.out; have h2 := HB.out.size; omega)).trans ((HB.out.block (w.heap.size + 1) HL1.out).trans HZ1.out)
      have HB3 := Hid.mk (bl2 HBw.out hB3)
      have HYG := Hid.mk (isBytes_below hyg hbx)
      have HZ3 := Hid.mk hA3
      clear hyg
      clear hb3 hbx hB3
      have kc0 := cell_of_row (w3.alloc (.cells #[.int .i64 Gid, .bool Glo, .bool Gfa, .bool Gre, .int .i64 Gsz, .slice ga gn gc] 24)) (w.heap.size + 1) 0 _ _ _ hA3
      have kz0 := frozen_of_row (w3.alloc (.cells #[.int .i64 Gid, .bool Glo, .bool Gfa, .bool Gre, .int .i64 Gsz, .slice ga gn gc] 24)) (w.heap.size + 1) 0 _ _ hA3
      have ks0 := heap_setCell_same (w3.alloc (.cells #[.int .i64 Gid, .bool Glo, .bool Gfa, .bool Gre, .int .i64 Gsz, .slice ga gn gc] 24)) (w.heap.size + 1) 0 _ _ (.int .i64 Gid) hA3
      simp only [List.setIfInBounds_toArray, List.set_cons_zero] at ks0
      simp at kc0
      have kc1 := cell_of_row ((w3.alloc (.cells #[.int .i64 Gid, .bool Glo, .bool Gfa, .bool Gre, .int .i64 Gsz, .slice ga gn gc] 24)).setCell ⟨(w.heap.size + 1), 0, none⟩ (.int .i64 Gid)) (w.heap.size + 1) 1 _ _ _ ks0
      have kz1 := frozen_of_row ((w3.alloc (.cells #[.int .i64 Gid, .bool Glo, .bool Gfa, .bool Gre, .int .i64 Gsz, .slice ga gn gc] 24)).setCell ⟨(w.heap.size + 1), 0, none⟩ (.int .i64 Gid)) (w.heap.size + 1) 1 _ _ ks0
      have ks1 := heap_setCell_same ((w3.alloc (.cells #[.int .i64 Gid, .bool Glo, .bool Gfa, .bool Gre, .int .i64 Gsz, .slice ga gn gc] 24)).setCell ⟨(w.heap.size + 1), 0, none⟩ (.int .i64 Gid)) (w.heap.size + 1) 1 _ _ (.bool Glo) ks0
      simp only [List.setIfInBounds_toArray, List.set_cons_zero, List.set_cons_succ] at ks1
      simp at kc1
      have kc2 := cell_of_row (((w3.alloc (.cells #[.int .i64 Gid, .bool Glo, .bool Gfa, .bool Gre, .int .i64 Gsz, .slice ga gn gc] 24)).setCell ⟨(w.heap.size + 1), 0, none⟩ (.int .i64 Gid)).setCell ⟨(w.heap.size + 1), 1, none⟩ (.bool Glo)) (w.heap.size + 1) 2 _ _ _ ks1
      have kz2 := frozen_of_row (((w3.alloc (.cells #[.int .i64 Gid, .bool Glo, .bool Gfa, .bool Gre, .int .i64 Gsz, .slice ga gn gc] 24)).setCell ⟨(w.heap.size + 1), 0, none⟩ (.int .i64 Gid)).setCell ⟨(w.heap.size + 1), 1, none⟩ (.bool Glo)) (w.heap.size + 1) 2 _ _ ks1
      have ks2 := heap_setCell_same (((w3.alloc (.cells #[.int .i64 Gid, .bool Glo, .bool Gfa, .bool Gre, .int .i64 Gsz, .slice ga gn gc] 24)).setCell ⟨(w.heap.size + 1), 0, none⟩ (.int .i64 Gid)).setCell ⟨(w.heap.size + 1), 1, none⟩ (.bool Glo)) (w.heap.size + 1) 2 _ _ (.bool Gfa) ks1
      simp only [List.setIfInBounds_toArray, List.set_cons_zero, List.set_cons_succ] at ks2
      simp at kc2
      have kc3 := cell_of_row ((((w3.alloc (.cells #[.int .i64 Gid, .bool Glo, .bool Gfa, .bool Gre, .int .i64 Gsz, .slice ga gn gc] 24)).setCell ⟨(w.heap.size + 1), 0, none⟩ (.int .i64 Gid)).setCell ⟨(w.heap.size + 1), 1, none⟩ (.bool Glo)).setCell ⟨(w.heap.size + 1), 2, none⟩ (.bool Gfa)) (w.heap.size + 1) 3 _ _ _ ks2
      have kz3 := frozen_of_row ((((w3.alloc (.cells #[.int .i64 Gid, .bool Glo, .bool Gfa, .bool Gre, .int .i64 Gsz, .slice ga gn gc] 24)).setCell ⟨(w.heap.size + 1), 0, none⟩ (.int .i64 Gid)).setCell ⟨(w.heap.size + 1), 1, none⟩ (.bool Glo)).setCell ⟨(w.heap.size + 1), 2, none⟩ (.bool Gfa)) (w.heap.size + 1) 3 _ _ ks2
      have ks3 := heap_setCell_same ((((w3.alloc (.cells #[.int .i64 Gid, .bool Glo, .bool Gfa, .bool Gre, .int .i64 Gsz, .slice ga gn gc] 24)).setCell ⟨(w.heap.size + 1), 0, none⟩ (.int .i64 Gid)).setCell ⟨(w.heap.size + 1), 1, none⟩ (.bool Glo)).setCell ⟨(w.heap.size + 1), 2, none⟩ (.bool Gfa)) (w.heap.size + 1) 3 _ _ (.bool Gre) ks2
      simp only [List.setIfInBounds_toArray, List.set_cons_zero, List.set_cons_succ] at ks3
      simp at kc3
      have kc4 := cell_of_row (((((w3.alloc (.cells #[.int .i64 Gid, .bool Glo, .bool Gfa, .bool Gre, .int .i64 Gsz, .slice ga gn gc] 24)).setCell ⟨(w.heap.size + 1), 0, none⟩ (.int .i64 Gid)).setCell ⟨(w.heap.size + 1), 1, none⟩ (.bool Glo)).setCell ⟨(w.heap.size + 1), 2, none⟩ (.bool Gfa)).setCell ⟨(w.heap.size + 1), 3, none⟩ (.bool Gre)) (w.heap.size + 1) 4 _ _ _ ks3
      have kz4 := frozen_of_row (((((w3.alloc (.cells #[.int .i64 Gid, .bool Glo, .bool Gfa, .bool Gre, .int .i64 Gsz, .slice ga gn gc] 24)).setCell ⟨(w.heap.size + 1), 0, none⟩ (.int .i64 Gid)).setCell ⟨(w.heap.size + 1), 1, none⟩ (.bool Glo)).setCell ⟨(w.heap.size + 1), 2, none⟩ (.bool Gfa)).setCell ⟨(w.heap.size + 1), 3, none⟩ (.bool Gre)) (w.heap.size + 1) 4 _ _ ks3
      have ks4 := heap_setCell_same (((((w3.alloc (.cells #[.int .i64 Gid, .bool Glo, .bool Gfa, .bool Gre, .int .i64 Gsz, .slice ga gn gc] 24)).setCell ⟨(w.heap.size + 1), 0, none⟩ (.int .i64 Gid)).setCell ⟨(w.heap.size + 1), 1, none⟩ (.bool Glo)).setCell ⟨(w.heap.size + 1), 2, none⟩ (.bool Gfa)).setCell ⟨(w.heap.size + 1), 3, none⟩ (.bool Gre)) (w.heap.size + 1) 4 _ _ (.int .i64 Gsz) ks3
      simp only [List.setIfInBounds_toArray, List.set_cons_zero, List.set_cons_succ] at ks4
      simp at kc4
      have kc5 := cell_of_row ((((((w3.alloc (.cells #[.int .i64 Gid, .bool Glo, .bool Gfa, .bool Gre, .int .i64 Gsz, .slice ga gn gc] 24)).setCell ⟨(w.heap.size + 1), 0, none⟩ (.int .i64 Gid)).setCell ⟨(w.heap.size + 1), 1, none⟩ (.bool Glo)).setCell ⟨(w.heap.size + 1), 2, none⟩ (.bool Gfa)).setCell ⟨(w.heap.size + 1), 3, none⟩ (.bool Gre)).setCell ⟨(w.heap.size + 1), 4, none⟩ (.int .i64 Gsz)) (w.heap.size + 1) 5 _ _ _ ks4
      have kz5 := frozen_of_row ((((((w3.alloc (.cells #[.int .i64 Gid, .bool Glo, .bool Gfa, .bool Gre, .int .i64 Gsz, .slice ga gn gc] 24)).setCell ⟨(w.heap.size + 1), 0, none⟩ (.int .i64 Gid)).setCell ⟨(w.heap.size + 1), 1, none⟩ (.bool Glo)).setCell ⟨(w.heap.size + 1), 2, none⟩ (.bool Gfa)).setCell ⟨(w.heap.size + 1), 3, none⟩ (.bool Gre)).setCell ⟨(w.heap.size + 1), 4, none⟩ (.int .i64 Gsz)) (w.heap.size + 1) 5 _ _ ks4
      have ks5 := heap_setCell_same ((((((w3.alloc (.cells #[.int .i64 Gid, .bool Glo, .bool Gfa, .bool Gre, .int .i64 Gsz, .slice ga gn gc] 24)).setCell ⟨(w.heap.size + 1), 0, none⟩ (.int .i64 Gid)).setCell ⟨(w.heap.size + 1), 1, none⟩ (.bool Glo)).setCell ⟨(w.heap.size + 1), 2, none⟩ (.bool Gfa)).setCell ⟨(w.heap.size + 1), 3, none⟩ (.bool Gre)).setCell ⟨(w.heap.size + 1), 4, none⟩ (.int .i64 Gsz)) (w.heap.size + 1) 5 _ _ (.slice ga gn gc) ks4
      simp only [List.setIfInBounds_toArray, List.set_cons_zero, List.set_cons_succ] at ks5
      simp at kc5
      have HFIN := Hid.mk ks5
      go_wp2_with fail
      refine bodyPost_ret (noise_results _ _ (w.heap.size + 1) _ _ rfl rfl HFIN.out rfl) rfl ?_
      refine ⟨ga, gn, gc, rfl, ?_, ?_⟩
      · exact isBytes_apart HYG.out HZ3.out frame_apart ((((((((Tch.refl [w.heap.size + 1] (w3.alloc (.cells #[.int .i64 Gid, .bool Glo, .bool Gfa, .bool Gre, .int .i64 Gsz, .slice ga gn gc] 24))).setK (by simp) _ _).setK (by simp) _ _).setK (by simp) _ _).setK (by simp) _ _).setK (by simp) _ _).setK (by simp) _ _))
      · exact Tch.below HB3.out ((((((((Tch.refl [w.heap.size + 1] (w3.alloc (.cells #[.int .i64 Gid, .bool Glo, .bool Gfa, .bool Gre, .int .i64 Gsz, .slice ga gn gc] 24))).setK (by simp) _ _).setK (by simp) _ _).setK (by simp) _ _).setK (by simp) _ _).setK (by simp) _ _).setK (by simp) _ _)) (by simp) (Nat.le_refl _)
end Bw
end Go.Proofs.YtemohjamcdkcmaaGreatDoor
namespace Go.Proofs.YtemohjamcdkcmaaGreatDoor
open Go.ChangeShapes Go.WideShapes Go.ChangeAt Go.RowKit
namespace Bw
open Bm Cm
theorem nilBytesN (w : World) : IsBytes w none 0 0 [] := ⟨rfl, Nat.le_refl _, Nat.zero_le _, fun _ => rfl, fun x hx => by cases hx⟩
set_option maxHeartbeats 4000000 in
theorem noFrameN (w : World) :
    Calls Tryz.prog 19 #[.agg #[.int .i64 0, .bool false, .bool false, .bool false, .int .i64 0, .slice none 0 0]] w fun e w' => e = .returned (.bool true) ∧ Below w.heap.size w w' := by
  have a1 := fun W => sameFrame_true ⟨0, false, false, false, 0, []⟩ none none 0 0 0 0 W (nilBytesN W) (nilBytesN W)
  unfold frameV at a1
  simp only at a1
  have HA1 := Hid.mk a1
  clear a1
  go_enter Tryz.func19, Tryz.ntmps19
  go_wp2_with fail
  refine (HA1.out _).mono ?_
  rintro e w1 ⟨rfl, hb1⟩
  go_wp2_with fail
  go_ret
  exact ⟨rfl, bl2 (below_box w 0 false false false 0 none 0 0) hb1⟩
end Bw
end Go.Proofs.YtemohjamcdkcmaaGreatDoor
