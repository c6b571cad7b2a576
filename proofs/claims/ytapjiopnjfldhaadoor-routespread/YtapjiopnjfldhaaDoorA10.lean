/- Lines that lie in a row; what sameLines answers of rows that are alike: true. -/
import Derived.Test.YtapjiopnjfldhaaDoorRtState
import Derived.Test.YtapjiopnjfldhaaDoorA8
import Derived.Test.YtapjiopnjfldhaaDoorFrCheck
import Derived.Test.YtapjiopnjfldhaaDoorA7
namespace Go.Proofs.YtapjiopnjfldhaaDoor
open Go.ChangeShapes Go.WideShapes Go.ChangeAt Go.RowKit
namespace Bw
open Bm
set_option linter.unusedVariables false
set_option maxHeartbeats 4000000 in
set_option maxRecDepth 100000 in
theorem equalN_true (w : World) (a b : Option Addr) (n c d : Nat) (l : List Int) (ha : IsNums w a n c l) (hb : IsNums w b n d l) :
    Calls Tryd.prog 36 #[.slice a n c, .slice b n d] w fun e w' => e = .returned (.bool true) ∧ Below w.heap.size w w' := by
  have hn63 : n ≤ 9223372036854775807 := by have h1 := ha.le; have h2 := ha.max; unfold maxLen at h2; omega
  have HA := Hid.mk ha
  have HB := Hid.mk hb
  clear ha hb
  go_enter Tryd.func36, Tryd.ntmps36
  go_wp2
  go_loopw [13] (fun i w' => ∃ k : Nat, k ≤ n ∧ i = .int .i64 k ∧ ∃ m, w' = w.drewN m) (fun i _ => n - (intOf i).toNat)
  case atStart => exact ⟨0, Nat.zero_le _, rfl, 0, rfl⟩
  case round =>
    obtain ⟨k, hk, rfl, m, rfl⟩ := hrel
    by_cases hlt : k < n
    · obtain ⟨x, rfl⟩ := HA.out.some hlt
      obtain ⟨y, rfl⟩ := HB.out.some hlt
      have g1 := HA.out.cell x rfl k hlt
      have g2 := HB.out.cell y rfl k hlt
      generalize l.getD k 0 = z at *
      have hlt' : (k : Int) < (n : Int) := by omega
      go_wp2
      go_quiet (fail)
      go_wp2
      go_roundw
      case rel => exact ⟨k + 1, by omega, by go_num, _, rfl⟩
      case measure => simp [intOf]; omega
    · go_wp2
      go_ret
      exact ⟨rfl, ⟨rfl, rfl, rfl, Nat.le_refl _, fun _ _ => rfl⟩⟩
set_option maxHeartbeats 4000000 in
set_option maxRecDepth 100000 in
theorem equalR_true (w : World) (a b : Option Addr) (n c d : Nat) (l : List Rt) (ha : IsRts w a n c l) (hb : IsRts w b n d l) :
    Calls Tryd.prog 35 #[.slice a n c, .slice b n d] w fun e w' => e = .returned (.bool true) ∧ Below w.heap.size w w' := by
  have hn63 : n ≤ 9223372036854775807 := by have h1 := ha.le; have h2 := ha.max; unfold maxLen at h2; omega
  have HA := Hid.mk ha
  have HB := Hid.mk hb
  clear ha hb
  go_enter Tryd.func35, Tryd.ntmps35
  go_wp2
  go_loopw [13] (fun i w' => ∃ k : Nat, k ≤ n ∧ i = .int .i64 k ∧ ∃ m, w' = w.drewN m) (fun i _ => n - (intOf i).toNat)
  case atStart => exact ⟨0, Nat.zero_le _, rfl, 0, rfl⟩
  case round =>
    obtain ⟨k, hk, rfl, m, rfl⟩ := hrel
    by_cases hlt : k < n
    · obtain ⟨x, rfl⟩ := HA.out.some hlt
      obtain ⟨y, rfl⟩ := HB.out.some hlt
      obtain ⟨g0, g1, g2, g3, g4, g5, g6⟩ := HA.out.cell x rfl k hlt
      obtain ⟨h0, h1, h2, h3, h4, h5, h6⟩ := HB.out.cell y rfl k hlt
      generalize l.getD k noR = z at *
      have hlt' : (k : Int) < (n : Int) := by omega
      go_wp2
      go_quiet (fail)
      go_wp2
      go_roundw
      case rel => exact ⟨k + 1, by omega, by go_num, _, rfl⟩
      case measure => simp [intOf]; omega
    · go_wp2
      go_ret
      exact ⟨rfl, ⟨rfl, rfl, rfl, Nat.le_refl _, fun _ _ => rfl⟩⟩
theorem rts_nil (w : World) (c : Nat) (h : c ≤ maxLen) : IsRts w none 0 c [] := ⟨rfl, Nat.zero_le _, h, fun _ => rfl, fun x hx => by cases hx⟩
theorem nums_nil (w : World) (c : Nat) (h : c ≤ maxLen) : IsNums w none 0 c [] := ⟨rfl, Nat.zero_le _, h, fun _ => rfl, fun x hx => by cases hx⟩
set_option maxHeartbeats 4000000 in
set_option maxRecDepth 100000 in
theorem sameGate_true (a1 : Option Addr) (n c1 : Nat) (b1 : Option Addr) (m d1 : Nat) (a2 : Option Addr) (c2 : Nat) (b2 : Option Addr) (d2 : Nat) (rs : List Rt) (ts : List Int) (w : World) (hR1 : IsRts w a1 n c1 rs) (hT1 : IsNums w b1 m d1 ts) (hR2 : IsRts w a2 n c2 rs) (hT2 : IsNums w b2 m d2 ts) :
    Calls Tryd.prog 12 #[gaV a1 n c1 b1 m d1, gaV a2 n c2 b2 m d2] w fun e w' => e = .returned (.bool true) ∧ Below w.heap.size w w' := by
  have hb1 := awB w (gaC a1 n c1 b1 m d1)
  have hb2 := awB (w.alloc (gaC a1 n c1 b1 m d1)) (gaC a2 n c2 b2 m d2)
  have hb := bl2 hb1 hb2
  have HE := Hid.mk (equalR_true _ a1 a2 n c1 c2 rs (hR1.kept hb) (hR2.kept hb))
  have HI := Hid.mk (fun (W : World) (h : Below w.heap.size w W) => equalN_true W b1 b2 m d1 d2 ts (hT1.kept h) (hT2.kept h))
  have HG1 := Hid.mk ((GaAt.new w a1 n c1 b1 m d1).kept hb2)
  have hg2 := GaAt.new (w.alloc (gaC a1 n c1 b1 m d1)) a2 n c2 b2 m d2
  rw [show (w.alloc (gaC a1 n c1 b1 m d1)).heap.size = w.heap.size + 1 by simp] at hg2
  have HG2 := Hid.mk hg2
  have HB := Hid.mk hb
  unfold gaC at HE HG1 HG2 HB
  unfold gaV
  clear hb1 hb2 hb hg2 hR1 hT1 hR2 hT2
  obtain ⟨k0, k1⟩ := HG1.out.cells
  obtain ⟨q0, q1⟩ := HG2.out.cells
  go_enter Tryd.func12, Tryd.ntmps12
  go_wp2_with fail
  refine HE.out.mono ?_
  rintro e w1 ⟨rfl, hb1⟩
  have HB1 := Hid.mk (bl2 HB.out hb1)
  obtain ⟨k2, k3⟩ := (HG1.out.kept hb1).cells
  obtain ⟨q2, q3⟩ := (HG2.out.kept hb1).cells
  clear hb1 k0 k1 q0 q1 HE HB HG1 HG2
  go_wp2_with fail
  refine (HI.out _ HB1.out).mono ?_
  rintro e w2 ⟨rfl, hb2⟩
  have HB2 := Hid.mk (bl2 HB1.out hb2)
  clear hb2 HB1
  go_wp2_with fail
  go_ret
  exact ⟨rfl, HB2.out⟩
end Bw
end Go.Proofs.YtapjiopnjfldhaaDoor
namespace Go.Proofs.YtapjiopnjfldhaaDoor
open Go.ChangeShapes Go.WideShapes Go.ChangeAt Go.RowKit
namespace Bw
open Bm Cm

set_option maxHeartbeats 8000000 in
theorem sameFrame_true (f : Fr) (a1 a2 : Option Addr) (n1 c1 n2 c2 : Nat) (w : World) (h1 : IsBytes w a1 n1 c1 f.dt) (h2 : IsBytes w a2 n2 c2 f.dt) :
    Calls Tryd.prog 43 #[frameV f.id f.lo f.fa f.re f.sz a1 n1 c1, frameV f.id f.lo f.fa f.re f.sz a2 n2 c2] w fun e w' => e = .returned (.bool true) ∧ Below w.heap.size w w' := by
  obtain ⟨id, lo, fa, re, sz, dt⟩ := f
  simp only at h1 h2 ⊢
  have hB1 := below_box w id lo fa re sz a1 n1 c1
  have hB2 := below_box (w.alloc (frameC id lo fa re sz a1 n1 c1)) id lo fa re sz a2 n2 c2
  have hB := bl2 hB1 hB2
  have hn : n1 = n2 := h1.1.symm.trans h2.1
  subst hn
  have hmx : n1 ≤ maxLen := by have := h1.2.1; have := h1.2.2.1; omega
  have hY1 := isBytes_below h1 hB
  have hY2 := isBytes_below h2 hB
  have hbe := equalB_true _ a1 a2 n1 c1 c2 dt hmx ⟨hY1.2.2.2.1, hY1.2.2.2.2⟩ ⟨hY2.2.2.2.1, hY2.2.2.2.2⟩
  have HBE := Hid.mk hbe
  have HB := Hid.mk hB
  unfold frameC at HBE HB
  unfold frameV
  clear h1 h2 hB1 hB2 hB hbe hY1 hY2 hmx
  go_enter Tryd.func43, Tryd.ntmps43
  go_wp2_with fail
  refine HBE.out.mono ?_
  rintro e w1 ⟨rfl, hb1⟩
  have hbel := bl2 HB.out hb1
  clear hb1
  go_wp2_with fail
  go_ret
  exact ⟨rfl, hbel⟩
end Bw
end Go.Proofs.YtapjiopnjfldhaaDoor
namespace Go.Proofs.YtapjiopnjfldhaaDoor
open Go.ChangeShapes Go.WideShapes Go.ChangeAt Go.RowKit
namespace Bw
open Bm Cm
set_option linter.unusedVariables false
def noLn : LnR := ⟨0, 0, 0, false, false, false, 0, none, 0, 0⟩
/-- a line's cells from an address on -/
structure LnOn (w : World) (y : Addr) (v : LnR) : Prop where
  c0 : w.cell? y = some (.int .i64 v.tm)
  c1 : w.cell? ⟨y.block, y.off + 1, none⟩ = some (.int .i64 v.bs)
  c2 : w.cell? ⟨y.block, y.off + 2, none⟩ = some (.int .i64 v.id)
  c3 : w.cell? ⟨y.block, y.off + 3, none⟩ = some (.bool v.lo)
  c4 : w.cell? ⟨y.block, y.off + 4, none⟩ = some (.bool v.fa)
  c5 : w.cell? ⟨y.block, y.off + 5, none⟩ = some (.bool v.re)
  c6 : w.cell? ⟨y.block, y.off + 6, none⟩ = some (.int .i64 v.sz)
  c7 : w.cell? ⟨y.block, y.off + 7, none⟩ = some (.slice v.a v.len v.cap)
theorem LnOn.kept {w w' : World} {y : Addr} {v : LnR} (h : LnOn w y v) (hb : Below w.heap.size w w') : LnOn w' y v :=
  ⟨cell_kept hb h.c0, cell_kept hb h.c1, cell_kept hb h.c2, cell_kept hb h.c3, cell_kept hb h.c4, cell_kept hb h.c5, cell_kept hb h.c6, cell_kept hb h.c7⟩
/-- lines in a row, all with these bytes -/
structure IsLns (w : World) (a : Option Addr) (n cap : Nat) (l : List LnR) (dt : List UInt8) : Prop where
  len : l.length = n
  le : n ≤ cap
  max : cap ≤ maxLen
  none : a = none → n = 0
  cell : ∀ x, a = some x → ∀ i, i < n → LnOn w (x.add (i * 8)) (l.getD i noLn)
  bytes : ∀ i, i < n → IsBytes w (l.getD i noLn).a (l.getD i noLn).len (l.getD i noLn).cap dt
theorem IsLns.kept {w w' : World} {a : Option Addr} {n cap : Nat} {l : List LnR} {dt : List UInt8} (h : IsLns w a n cap l dt) (hb : Below w.heap.size w w') : IsLns w' a n cap l dt :=
  ⟨h.len, h.le, h.max, h.none, fun x hx i hi => (h.cell x hx i hi).kept hb, fun i hi => isBytes_below (h.bytes i hi) hb⟩
theorem IsLns.some {w : World} {a : Option Addr} {n cap : Nat} {l : List LnR} {dt : List UInt8} (h : IsLns w a n cap l dt) {i : Nat} (hi : i < n) : ∃ x, a = some x := by
  cases a with
  | none => exact absurd (h.none rfl) (by omega)
  | some x => exact ⟨x, rfl⟩
theorem getL {l : List LnR} {i : Nat} (h : i < l.length) : l.getD i noLn = l[i] := by simp [List.getD, h]
theorem lns_of {w : World} {base : Nat} {a : Option Addr} {n c : Nat} {l : List LnR} {dt : List UInt8} (h : w.ownsRow base 49 8 (.slice a n c) n (lnsC l)) (hl : l.length = n) (hb : ∀ v ∈ l, IsBytes w v.a v.len v.cap dt) : IsLns w a n c l dt := by
  subst hl
  have hby : ∀ i, i < l.length → IsBytes w (l.getD i noLn).a (l.getD i noLn).len (l.getD i noLn).cap dt := fun i hi => by rw [getL hi]; exact hb _ (List.getElem_mem hi)
  rcases h.2 with ⟨hv, hn⟩ | ⟨g, cap, cur, hv, _, hh, hc, hm, hsz, htk⟩
  · have hl : l = [] := by simpa using hn
    subst hl
    cases hv
    exact ⟨rfl, Nat.le_refl _, Nat.zero_le _, fun _ => rfl, (fun x hx => by cases hx), hby⟩
  · cases hv
    refine ⟨rfl, hc, hm, (fun h => by cases h), ?_, hby⟩
    intro x hx i hi
    cases hx
    have ea : ∀ j, (Addr.add ⟨g, 0, none⟩ j) = ⟨g, j, none⟩ := by intro j; simp [Addr.add]; exact fun h => h.symm
    have hcell := h.cells (g := g) rfl
    have hk : ∀ k, k < 8 → ∀ u, (LnR.cl l[i])[k]? = some u → w.cell? ⟨g, i * 8 + k, none⟩ = some u := by
      intro k hk u hu
      have hg := flat_get LnR.cl 8 (fun _ => rfl) l i k hi hk
      rw [hu] at hg
      have := hcell (i * 8 + k) u hg
      rw [ea] at this
      exact this
    rw [getL hi, ea]
    exact ⟨hk 0 (by omega) _ rfl, hk 1 (by omega) _ rfl, hk 2 (by omega) _ rfl, hk 3 (by omega) _ rfl, hk 4 (by omega) _ rfl, hk 5 (by omega) _ rfl, hk 6 (by omega) _ rfl, hk 7 (by omega) _ rfl⟩
def ln8C (tm bs id : Int) (lo fa re : Bool) (sz : Int) (a : Option Addr) (len cap : Nat) : Obj := .cells #[.int .i64 tm, .int .i64 bs, .int .i64 id, .bool lo, .bool fa, .bool re, .int .i64 sz, .slice a len cap] 49
theorem ln8_at (w : World) (tm bs id : Int) (lo fa re : Bool) (sz : Int) (a : Option Addr) (len cap : Nat) : ∀ j u, (#[.int .i64 tm, .int .i64 bs, .int .i64 id, .bool lo, .bool fa, .bool re, .int .i64 sz, .slice a len cap] : Array Value)[j]? = some u → (w.alloc (ln8C tm bs id lo fa re sz a len cap)).cell? ⟨w.heap.size, j, none⟩ = some u := by
  intro j u hu
  rw [cell_of_row _ _ j _ _ _ (heap_alloc_new w (ln8C tm bs id lo fa re sz a len cap))]
  exact hu
set_option maxHeartbeats 8000000 in
set_option maxRecDepth 100000 in
theorem sameLn_true (tm bs id : Int) (lo fa re : Bool) (sz : Int) (a1 a2 : Option Addr) (len c1 c2 : Nat) (dt : List UInt8) (w : World) (h1 : IsBytes w a1 len c1 dt) (h2 : IsBytes w a2 len c2 dt) :
    Calls Tryd.prog 42 #[lnV tm bs id lo fa re sz a1 len c1, lnV tm bs id lo fa re sz a2 len c2] w fun e w' => e = .returned (.bool true) ∧ Below w.heap.size w w' := by
  have hb1 := awB w (ln8C tm bs id lo fa re sz a1 len c1)
  have hb2 := awB (w.alloc (ln8C tm bs id lo fa re sz a1 len c1)) (ln8C tm bs id lo fa re sz a2 len c2)
  have hb := bl2 hb1 hb2
  have HSM := Hid.mk (sameFrame_true ⟨id, lo, fa, re, sz, dt⟩ a1 a2 len c1 len c2 _ (isBytes_below h1 hb) (isBytes_below h2 hb))
  have HB := Hid.mk hb
  unfold ln8C at HSM HB
  unfold frameV at HSM
  unfold lnV
  simp only at HSM
  clear hb1 hb2 hb h1 h2
  go_enter Tryd.func42, Tryd.ntmps42
  go_wp2_with fail
  refine HSM.out.mono ?_
  rintro e w1 ⟨rfl, hb1⟩
  have HB1 := Hid.mk (bl2 HB.out hb1)
  clear hb1
  go_wp2_with fail
  go_ret
  exact ⟨rfl, HB1.out⟩
set_option maxHeartbeats 8000000 in
set_option maxRecDepth 100000 in
theorem equalLn_true (a b : Option Addr) (n c d : Nat) (l l' : List LnR) (dt : List UInt8) (w : World) (hA : IsLns w a n c l dt) (hB : IsLns w b n d l' dt) (he : l.map LnR.k = l'.map LnR.k) :
    Calls Tryd.prog 41 #[.slice a n c, .slice b n d, .func (.func 42) #[] #[]] w fun e w' => e = .returned (.bool true) ∧ Below w.heap.size w w' := by
  have hn63 : n ≤ 9223372036854775807 := by have h1 := hA.le; have h2 := hA.max; unfold maxLen at h2; omega
  have HA := Hid.mk hA
  have HBB := Hid.mk hB
  have HKE : Hid (∀ i, i < n → (l.getD i noLn).k = (l'.getD i noLn).k) := Hid.mk (fun i hi => by
    have h1 : i < l.length := by rw [hA.len]; exact hi
    have h2 : i < l'.length := by rw [hB.len]; exact hi
    rw [getL h1, getL h2]
    have e1 : (l.map LnR.k)[i]? = some l[i].k := by rw [List.getElem?_map, List.getElem?_eq_getElem h1]; rfl
    have e2 : (l'.map LnR.k)[i]? = some l'[i].k := by rw [List.getElem?_map, List.getElem?_eq_getElem h2]; rfl
    rw [he, e2] at e1
    exact (Option.some.inj e1).symm)
  clear hA hB he
  go_enter Tryd.func41, Tryd.ntmps41
  go_wp2_with fail
  go_loopw [17] (fun i wr => ∃ (k : Nat), k ≤ n ∧ i = .int .i64 k ∧ Hid (Below w.heap.size w wr)) (fun i _ => n - (intOf i).toNat)
  case atStart => exact ⟨0, Nat.zero_le _, rfl, Hid.mk (Below.refl _ _)⟩
  case round =>
    obtain ⟨k, hk, rfl, HB⟩ := hrel
    by_cases hlt : k < n
    · have hlt' : (k : Int) < (n : Int) := by omega
      obtain ⟨x, rfl⟩ := HA.out.some hlt
      obtain ⟨y, rfl⟩ := HBB.out.some hlt
      obtain ⟨c0, c1, c2, c3, c4, c5, c6, c7⟩ := (HA.out.kept HB.out).cell x rfl k hlt
      have hd := (HBB.out.kept HB.out).cell y rfl k hlt
      have hy1 := (HA.out.kept HB.out).bytes k hlt
      have hy2 := (HBB.out.kept HB.out).bytes k hlt
      have hke := HKE.out k hlt
      generalize l.getD k noLn = v at *
      generalize l'.getD k noLn = u at *
      obtain ⟨tm, bs, id, lo, fa, re, sz, va, vl, vc⟩ := v
      obtain ⟨tm', bs', id', lo', fa', re', sz', ua, ul, uc⟩ := u
      unfold LnR.k at hke
      simp only [Prod.mk.injEq] at hke
      obtain ⟨e1, e2, e3, e4, e5, e6, e7, e8⟩ := hke
      subst e1 e2 e3 e4 e5 e6 e7 e8
      simp only at c0 c1 c2 c3 c4 c5 c6 c7 hy1 hy2
      have hb1 := awB wr (ln8C tm bs id lo fa re sz va vl vc)
      obtain ⟨d0, d1, d2, d3, d4, d5, d6, d7⟩ := hd.kept hb1
      simp only at d0 d1 d2 d3 d4 d5 d6 d7
      have hb2 := awB (wr.alloc (ln8C tm bs id lo fa re sz va vl vc)) (ln8C tm bs id lo fa re sz ua vl uc)
      have hb12 := bl2 hb1 hb2
      have HSM := Hid.mk (sameLn_true tm bs id lo fa re sz va ua vl vc uc dt _ (isBytes_below hy1 hb12) (isBytes_below hy2 hb12))
      have HB2 := Hid.mk (bl2 HB.out hb12)
      unfold ln8C at HSM HB2 d0 d1 d2 d3 d4 d5 d6 d7
      unfold lnV at HSM
      clear hd hy1 hy2 hb1 hb2 hb12
      go_wp2_with fail
      refine HSM.out.mono ?_
      rintro e w3 ⟨rfl, hb3⟩
      have HB3 := Hid.mk (bl2 HB2.out hb3)
      clear hb3 c0 c1 c2 c3 c4 c5 c6 c7 d0 d1 d2 d3 d4 d5 d6 d7
      go_wp2_with fail
      go_roundw
      case rel => exact ⟨k + 1, by omega, by go_num, HB3⟩
      case measure => simp [intOf]; omega
    · obtain rfl : k = n := by omega
      go_wp2_with fail
      go_ret
      exact ⟨rfl, HB.out⟩
set_option maxHeartbeats 1000000 in
theorem sameLines_true (a b : Option Addr) (n c d : Nat) (l l' : List LnR) (dt : List UInt8) (w : World) (hA : IsLns w a n c l dt) (hB : IsLns w b n d l' dt) (he : l.map LnR.k = l'.map LnR.k) :
    Calls Tryd.prog 18 #[.slice a n c, .slice b n d] w fun e w' => e = .returned (.bool true) ∧ Below w.heap.size w w' := by
  have HE := Hid.mk (equalLn_true a b n c d l l' dt w hA hB he)
  clear hA hB he
  go_enter Tryd.func18, Tryd.ntmps18
  go_wp2_with fail
  refine HE.out.mono ?_
  rintro e w1 ⟨rfl, hb1⟩
  have HB1 := Hid.mk hb1
  clear hb1
  go_wp2_with fail
  go_ret
  exact ⟨rfl, HB1.out⟩
end Bw
end Go.Proofs.YtapjiopnjfldhaaDoor
