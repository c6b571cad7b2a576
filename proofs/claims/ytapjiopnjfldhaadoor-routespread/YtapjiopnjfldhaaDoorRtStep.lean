/- What route.Step answers. -/
import Derived.Test.YtapjiopnjfldhaaDoorRtState
namespace Go.Proofs.YtapjiopnjfldhaaDoor
open Go.ChangeShapes Go.WideShapes Go.ChangeAt Go.RowKit
namespace Bw
open Bm
set_option linter.unusedVariables false
theorem step_res (tmps : Array Value) (w : World) (g : Nat) (cs : Array Value) (x y : Value) (hp : tmps.getD 8 undef = .pointer (some ⟨g, 0, none⟩)) (hx : tmps.getD 9 undef = x) (hy : tmps.getD 10 undef = y) (h : w.heap[g]? = some (.cells cs 25 (0, 0))) (hs : cs.size = 2) :
    (results Tryd.f7 tmps).run Tryd.prog w = .ok (.tuple #[.agg cs, x, y]) w := by
  have hl := run_loadVar_row (P := Tryd.prog) w g 25 25 cs (0, 0) _ h Tryd.underlying25 rfl (by rw [ga_i, hs])
  have hp' : tmps[8]?.getD undef = .pointer (some ⟨g, 0, none⟩) := by simpa using hp
  have hx' : tmps[9]?.getD undef = x := by simpa using hx
  have hy' : tmps[10]?.getD undef = y := by simpa using hy
  simp [results, hp', hx', hy', asAddr, hl]
theorem own_ltB {w : World} {base : Nat} {e : TypeId} {size : Nat} {v : Value} {n : Nat} {xs : List Value} (h : w.ownsRow base e size v n xs) : ∀ x, sliceAt v = some x → x.block < w.heap.size := by
  intro x hx
  rcases h.2 with ⟨h1, h2⟩ | ⟨g, c, cur, h1, h2, h3, _⟩
  · subst h1; cases hx
  · subst h1; cases hx; exact (Array.getElem?_eq_some_iff.1 h3).1
theorem own_geB {w : World} {base : Nat} {e : TypeId} {size : Nat} {v : Value} {n : Nat} {xs : List Value} (h : w.ownsRow base e size v n xs) : ∀ x, sliceAt v = some x → base ≤ x.block := by
  intro x hx
  rcases h.2 with ⟨h1, h2⟩ | ⟨g, c, cur, h1, h2, h3, _⟩
  · subst h1; cases hx
  · subst h1; cases hx; exact h2
theorem own_caps {w : World} {base : Nat} {e : TypeId} {size : Nat} {b : Option Addr} {n d : Nat} {xs : List Value} (h : w.ownsRow base e size (.slice b n d) n xs) : n ≤ d ∧ d ≤ maxLen := by
  rcases h.2 with ⟨h1, h2⟩ | ⟨g, c, cur, h1, h2, h3, h4, h5, _⟩
  · cases h1; exact ⟨Nat.le_refl _, Nat.zero_le _⟩
  · cases h1; exact ⟨h4, h5⟩
theorem rts_ofN {w : World} {base : Nat} {v : Value} {n : Nat} {l : List Rt} (h : w.ownsRow base 45 7 v n (rtsC l)) (hl : l.length = n) : ∃ a cap, v = .slice a n cap ∧ IsRts w a n cap l := by
  subst hl
  exact rts_of h
theorem rts_grown {w w' : World} {a : Option Addr} {n c : Nat} {l : List Rt} (h : IsRts w a n c l) {B : Nat} (hf : FarB (B + 1) a) (hg : w.grownBy w' (some B)) : IsRts w' a n c l := by
  refine ⟨h.len, h.le, h.max, h.none, fun x hx j hj => ?_⟩
  have hc := h.cell x hx j hj
  have hx1 := hf x hx
  have hb : (x.add (j * 7)).block = x.block := by unfold Addr.add; split <;> rfl
  have hk : ∀ p : Addr, p.block = x.block → ∀ u, w.cell? p = some u → w'.cell? p = some u := by
    intro p hp u hu
    have hlt := block_lt_of_cell hu
    unfold World.cell? at hu ⊢
    rw [hg.block _ hlt (by rw [hp]; intro e; have := Option.some.inj e; omega)]
    exact hu
  refine ⟨hk _ ?_ _ hc.c0, hk _ ?_ _ hc.c1, hk _ ?_ _ hc.c2, hk _ ?_ _ hc.c3, hk _ ?_ _ hc.c4, hk _ ?_ _ hc.c5, hk _ ?_ _ hc.c6⟩ <;> exact hb
def blkOf (b : Option Addr) : Option Nat := b.map (·.block)
theorem blk_far {B q : Nat} {b : Option Addr} (h : FarB B b) (hq : blkOf b = some q) : B ≤ q := by
  cases b with
  | none => cases hq
  | some x => cases hq; exact h x rfl
theorem grown_refl (w : World) (r : Option Nat) : w.grownBy w r := ⟨rfl, rfl, rfl, Nat.le_refl _, fun _ _ _ => rfl⟩
theorem grown_below {w w' w'' : World} {r : Option Nat} (h : w.grownBy w' r) (hb : Below w'.heap.size w' w'') : w.grownBy w'' r :=
  ⟨hb.os.trans h.os, hb.tape.trans h.tape, hb.output.trans h.output, Nat.le_trans h.size hb.size, fun k hk hr => (hb.block k (Nat.lt_of_lt_of_le hk h.size)).trans (h.block k hk hr)⟩
theorem own_ltV {w : World} {base : Nat} {e : TypeId} {size : Nat} {v : Value} {n : Nat} {xs : List Value} (h : w.ownsRow base e size v n xs) : ∀ q, v.ownBlock = some q → q < w.heap.size := by
  intro q hq
  rcases h.2 with ⟨h1, h2⟩ | ⟨g, c, cur, h1, h2, h3, _⟩
  · subst h1; cases hq
  · subst h1; cases hq; exact (Array.getElem?_eq_some_iff.1 h3).1
theorem lst_some {w : World} {b : Option Addr} {n : Nat} {L : List Int} (h : LstAt w b n L) {i : Nat} (hi : i < n) : ∃ g cur, b = some ⟨g, 0, none⟩ ∧ w.heap[g]? = some (.cells cur 3 (0, 0)) ∧ True := by
  rcases h.2 with h0 | ⟨g, cur, hb, hh, hc⟩
  · omega
  · exact ⟨g, cur, hb, hh, trivial⟩
theorem grown_set_row {w w' : World} {g : Nat} (h : w.grownBy w' (some g)) (i : Nat) (v : Value) : w.grownBy (w'.setCell ⟨g, i, none⟩ v) (some g) := by
  have h2 := grown_set w' ⟨g, i, none⟩ v
  exact ⟨h2.os.trans h.os, h2.tape.trans h.tape, h2.output.trans h.output, Nat.le_trans h.size h2.size, fun k hk hn => (h2.block k (Nat.lt_of_lt_of_le hk h.size) hn).trans (h.block k hk hn)⟩
theorem OwnLns.base {w : World} {base B : Nat} {r : Value} {l : List LnR} {dt : List UInt8} (h : OwnLns w base r l dt) (hb : B ≤ base) : OwnLns w B r l dt :=
  ⟨owns_baseG h.row hb, h.bytes, h.apart, fun v hv x hx => Nat.le_trans hb (h.fresh v hv x hx)⟩
theorem rts_off {w w' : World} {a : Option Addr} {n c : Nat} {l : List Rt} (h : IsRts w a n c l) {r : Option Nat} (hg : w.grownBy w' r) (hr : ∀ x, a = some x → r ≠ some x.block) : IsRts w' a n c l := by
  refine ⟨h.len, h.le, h.max, h.none, fun x hx j hj => ?_⟩
  have hc := h.cell x hx j hj
  have hx1 := hr x hx
  have hb : (x.add (j * 7)).block = x.block := by unfold Addr.add; split <;> rfl
  have hk : ∀ p : Addr, p.block = x.block → ∀ u, w.cell? p = some u → w'.cell? p = some u := by
    intro p hp u hu
    have hlt := block_lt_of_cell hu
    unfold World.cell? at hu ⊢
    rw [hg.block _ hlt (by rw [hp]; intro e; exact hx1 e.symm)]
    exact hu
  refine ⟨hk _ ?_ _ hc.c0, hk _ ?_ _ hc.c1, hk _ ?_ _ hc.c2, hk _ ?_ _ hc.c3, hk _ ?_ _ hc.c4, hk _ ?_ _ hc.c5, hk _ ?_ _ hc.c6⟩ <;> exact hb
theorem lst_lt {w : World} {b : Option Addr} {n : Nat} {L : List Int} (h : LstAt w b n L) {x : Addr} (hx : b = some x) : n = 0 ∨ x.block < w.heap.size := by
  rcases h.2 with h0 | ⟨g, cur, rfl, hh, hc⟩
  · exact .inl h0
  · cases hx; exact .inr (Array.getElem?_eq_some_iff.1 hh).1
theorem grown_trans {w w' w'' : World} {r r' : Option Nat} (h : w.grownBy w' r) (h' : w'.grownBy w'' r') (hr : ∀ q, r' = some q → w.heap.size ≤ q) : w.grownBy w'' r :=
  ⟨h'.os.trans h.os, h'.tape.trans h.tape, h'.output.trans h.output, Nat.le_trans h.size h'.size, fun k hk hn => (h'.block k (Nat.lt_of_lt_of_le hk h.size) (fun e => by have := hr k e.symm; omega)).trans (h.block k hk hn)⟩
theorem new_cellsR (W : World) (cs : List Value) (t : TypeId) : ∀ q u, cs[q]? = some u → (W.alloc (.cells cs.toArray t)).cell? (Addr.add ⟨W.heap.size, 0, none⟩ q) = some u := by
  intro q u hq
  have e : (Addr.add ⟨W.heap.size, 0, none⟩ q) = ⟨W.heap.size, 0 + q, none⟩ := Addr.add_mid _ _ _
  rw [e, Nat.zero_add, cell_of_row _ _ q _ _ _ (heap_alloc_new W _), List.getElem?_toArray]
  exact hq
theorem sntL_len (rs : List Rt) (ts : List Int) (time bus : Int) (id : Nat) (lo fa re : Bool) (sz : Int) (len : Nat) : ∀ k, (sntL rs ts time bus id lo fa re sz len k).length ≤ k
  | 0 => Nat.le_refl _
  | k + 1 => by
    have := sntL_len rs ts time bus id lo fa re sz len k
    rw [sntL, List.length_append]
    split <;> simp <;> omega
def stp3 (w : World) (a : Option Addr) (n c : Nat) (b : Option Addr) (m d : Nat) (id : Int) (lo fa re : Bool) (sz : Int) (fa0 : Option Addr) (len cap : Nat) : World := ((w.alloc (gaC a n c b m d)).alloc (frameC id lo fa re sz fa0 len cap)).alloc (gaC none 0 0 none 0 0)
theorem stp3_at (w : World) (a : Option Addr) (n c : Nat) (b : Option Addr) (m d : Nat) (id : Int) (lo fa re : Bool) (sz : Int) (fa0 : Option Addr) (len cap : Nat) :
    GaAt (stp3 w a n c b m d id lo fa re sz fa0 len cap) w.heap.size a n c b m d ∧ Row6 (stp3 w a n c b m d id lo fa re sz fa0 len cap) (w.heap.size + 1) id lo fa re sz fa0 len cap ∧ Row2 (stp3 w a n c b m d id lo fa re sz fa0 len cap) (w.heap.size + 2) (.slice none 0 0) (.slice none 0 0) ∧ Below w.heap.size w (stp3 w a n c b m d id lo fa re sz fa0 len cap) ∧ (stp3 w a n c b m d id lo fa re sz fa0 len cap).heap.size = w.heap.size + 3 := by
  obtain ⟨h1, h2, h3⟩ := gf2_at w a n c b m d id lo fa re sz fa0 len cap
  have b3 := awB ((w.alloc (gaC a n c b m d)).alloc (frameC id lo fa re sz fa0 len cap)) (gaC none 0 0 none 0 0)
  have h4 := Row2.new ((w.alloc (gaC a n c b m d)).alloc (frameC id lo fa re sz fa0 len cap)) (.slice none 0 0) (.slice none 0 0)
  rw [show ((w.alloc (gaC a n c b m d)).alloc (frameC id lo fa re sz fa0 len cap)).heap.size = w.heap.size + 2 by simp] at h4
  exact ⟨h1.kept b3, h2.kept b3, h4, bl2 h3 b3, by unfold stp3; simp⟩
set_option maxHeartbeats 8000000 in
set_option maxRecDepth 100000 in
theorem step_bad (a : Option Addr) (n c : Nat) (b : Option Addr) (m d : Nat) (rs : List Rt) (ts : List Int) (time bus : Int) (id : Int) (lo fa re : Bool) (sz : Int) (fa0 : Option Addr) (len cap : Nat) (w : World) (hR : IsRts w a n c rs) (hT : IsNums w b m d ts) (hL : LastsAt w) (hS : SizesAt w) (hlen : len ≤ maxLen) (hE : stE rs ts time bus id lo fa re sz len ≠ 0) :
    Calls Tryd.prog 7 #[gaV a n c b m d, .int .i64 time, .int .i64 bus, frameV id lo fa re sz fa0 len cap] w fun e w' => e = .returned (.tuple #[gaV none 0 0 none 0 0, .slice none 0 0, .int .i64 (stE rs ts time bus id lo fa re sz len)]) ∧ Below w.heap.size w w' := by
  obtain ⟨hG, hF, hZ, hb, hsz⟩ := stp3_at w a n c b m d id lo fa re sz fa0 len cap
  have HCS := Hid.mk (checkStep_any a n c b m d rs ts time bus id lo fa re sz fa0 len cap _ (hR.kept hb) (hT.kept hb) (hL.kept hb) (hS.kept hb) hlen)
  have HB := Hid.mk hb
  have HG := Hid.mk hG
  have HF := Hid.mk hF
  have HZ := Hid.mk hZ
  have HSZ := Hid.mk hsz
  obtain ⟨k0, k1⟩ := hG.cells
  obtain ⟨q0, q1, q2, q3, q4, q5⟩ := hF.fr
  have hne : (stE rs ts time bus id lo fa re sz len != 0) = true := by simpa using hE
  generalize stE rs ts time bus id lo fa re sz len = E at *
  unfold stp3 gaC frameC at HB HG HF HZ HCS HSZ k0 k1 q0 q1 q2 q3 q4 q5
  unfold gaV frameV at HCS
  unfold gaV frameV
  clear hG hF hZ hb hR hT hL hS hlen hE hsz
  go_enter Tryd.func7, Tryd.ntmps7
  go_wp2_with fail
  refine HCS.out.mono ?_
  rintro e w1 ⟨rfl, hb1⟩
  have HB1 := Hid.mk (bl2 HB.out hb1)
  have HZ1 := Hid.mk (HZ.out.kept hb1)
  have HG1 := Hid.mk (HG.out.kept hb1)
  have HF1 := Hid.mk (HF.out.kept hb1)
  have HS1 : Hid (w.heap.size + 3 ≤ w1.heap.size) := Hid.mk (by have h1 := hb1.size; have h2 := HSZ.out; omega)
  clear hb1 HB HG HF HZ HCS k0 k1 q0 q1 q2 q3 q4 q5 HSZ
  obtain ⟨⟨y0, p0⟩, ⟨y1, p1⟩, -, hSX⟩ := HZ1.out.ready (.slice none 0 0) (.slice none 0 0)
  have HSX := Hid.mk hSX
  clear hSX
  go_wp2_with fail
  refine bodyPost_ret (step_res _ _ (w.heap.size + 2) _ _ _ rfl rfl rfl HSX.out rfl) rfl ?_
  exact ⟨rfl, set2_below HB1.out (by omega) _ _⟩
set_option maxHeartbeats 8000000 in
set_option maxRecDepth 100000 in
theorem step_ok (a : Option Addr) (n c : Nat) (b : Option Addr) (m d : Nat) (rs : List Rt) (ts : List Int) (time bus : Int) (id : Nat) (lo fa re : Bool) (sz : Int) (fa0 : Option Addr) (len cap : Nat) (dt : List UInt8) (w : World) (hR : IsRts w a n c rs) (hT : IsNums w b m d ts) (hL : LastsAt w) (hS : SizesAt w) (hlen : len ≤ maxLen) (hD : IsBytes w fa0 len cap dt) (hE : stE rs ts time bus id lo fa re sz len = 0) (hid : id ≤ topN lo) :
    Calls Tryd.prog 7 #[gaV a n c b m d, .int .i64 time, .int .i64 bus, frameV id lo fa re sz fa0 len cap] w fun e w' => ∃ a' c' b' d' l' lc P, e = .returned (.tuple #[gaV a' n c' b' n d', .slice l' P.length lc, .int .i64 0]) ∧ IsRts w' a' n c' rs ∧ IsNums w' b' n d' (newL rs ts time bus id lo fa re sz len n) ∧ OwnLns w' w.heap.size (.slice l' P.length lc) P dt ∧ P.map LnR.k = (sntL rs ts time bus id lo fa re sz len n).map (lnK time lo fa re sz len) ∧ Below w.heap.size w w' := by
  obtain ⟨hG, hF, hZ, hb, hsz⟩ := stp3_at w a n c b m d id lo fa re sz fa0 len cap
  have HCS := Hid.mk (checkStep_any a n c b m d rs ts time bus id lo fa re sz fa0 len cap _ (hR.kept hb) (hT.kept hb) (hL.kept hb) (hS.kept hb) hlen)
  have HB := Hid.mk hb
  have HG := Hid.mk hG
  have HF := Hid.mk hF
  have HZ := Hid.mk hZ
  have HSZ := Hid.mk hsz
  obtain ⟨k0, k1⟩ := hG.cells
  obtain ⟨q0, q1, q2, q3, q4, q5⟩ := hF.fr
  rw [hE] at HCS
  have hE0 := hE
  unfold stE at hE0
  have hz1 : chkG rs ts = 0 := by
    by_cases h : chkG rs ts ≠ 0
    · rw [if_pos h] at hE0; exact absurd hE0 h
    · exact Classical.not_not.1 h
  rw [if_neg (by rw [hz1]; simp)] at hE0
  have hz2 : frEn id lo fa re sz len = 0 := by
    by_cases h : frEn id lo fa re sz len ≠ 0
    · rw [if_pos h] at hE0; exact absurd hE0 h
    · exact Classical.not_not.1 h
  rw [if_neg (by rw [hz2]; simp)] at hE0
  have hz3 : timB time = true := by
    cases h : timB time with
    | true => rfl
    | false => rw [if_pos h] at hE0; omega
  have htm : 0 ≤ time ∧ time ≤ 1000000 := by unfold timB at hz3; simpa using hz3
  obtain ⟨hn20, hmn, hall⟩ : n ≤ 20 ∧ m = n ∧ allR rs ts = true := by
    have h1 := hR.len
    have h2 := hT.len
    unfold chkG at hz1
    rw [h1, h2] at hz1
    by_cases h3 : 20 < n
    · rw [if_pos h3] at hz1; omega
    · rw [if_neg h3] at hz1
      by_cases h4 : m ≠ n
      · rw [if_pos h4] at hz1; omega
      · rw [if_neg h4] at hz1
        cases h5 : allR rs ts with
        | true => exact ⟨by omega, by omega, rfl⟩
        | false => rw [h5] at hz1; simp at hz1
  subst hmn
  have hlen1 : len ≤ 64 := by
    unfold frEn at hz2
    by_cases h1 : (id : Int) < 0 ∨ topI lo < (id : Int)
    · rw [if_pos h1] at hz2; omega
    · rw [if_neg h1] at hz2
      by_cases h2 : re = true ∧ (fa = true ∨ len ≠ 0)
      · rw [if_pos h2] at hz2; omega
      · rw [if_neg h2] at hz2
        by_cases h3 : sz < 0 ∨ 8 < sz ∨ (0 < sz ∧ re = false)
        · rw [if_pos h3] at hz2; omega
        · rw [if_neg h3] at hz2
          by_cases h4 : 64 < len ∨ (8 < len ∧ fa = false)
          · rw [if_pos h4] at hz2; omega
          · omega
  have HCR := Hid.mk (fun (W : World) (h : Below w.heap.size w W) => copiedR_any a m c rs W (hR.kept h) (by omega))
  have HCI := Hid.mk (fun (W : World) (h : Below w.heap.size w W) => copiedI_any b m d ts W (hT.kept h) (by omega))
  have HRR := Hid.mk hR
  have HTT := Hid.mk hT
  have HDD := Hid.mk hD
  have HOK : Hid (∀ k, k < m → okR (rs.getD k noR) (ts.getD k 0) = true) := Hid.mk (fun k hk => allR_at hall (by rw [hR.len]; exact hk))
  have HCA := Hid.mk (fun (r : Rt) (h1 : okFl r.f = true) (h2 : addB r = true) (W : World) (h : Below w.heap.size w W) => carry_any r bus id lo fa re sz fa0 len cap W h1 h2 (hL.kept h) (hS.kept h) hlen hz2 hid)
  have HLN := Hid.mk (fun (tb ID : Int) (W : World) (h : Below w.heap.size w W) => lineOf_any time tb ID lo fa re sz fa0 len cap dt W (isBytes_below hD h) (by omega))
  have HTS := Hid.mk (fun (r : Rt) (t : Int) (W : World) (h : -1 ≤ t ∧ t ≤ 1000000) => isTooSoon_any r t time W h htm)
  have HN20 := Hid.mk hn20
  have hn63 : (m : Int) ≤ 20 := by omega
  unfold stp3 gaC frameC at HB HG HF HZ HCS HSZ k0 k1 q0 q1 q2 q3 q4 q5
  unfold gaV frameV at HCS
  unfold gaV frameV
  clear hG hF hZ hb hR hT hL hS hlen hE hsz hE0 hz1 hz2 hz3 htm hall hn20 hlen1 hD hid
  go_enter Tryd.func7, Tryd.ntmps7
  go_wp2_with fail
  refine HCS.out.mono ?_
  rintro e w1 ⟨rfl, hb1⟩
  have HB1 := Hid.mk (bl2 HB.out hb1)
  have HZ1 := Hid.mk (HZ.out.kept hb1)
  have HG1 := Hid.mk (HG.out.kept hb1)
  have HF1 := Hid.mk (HF.out.kept hb1)
  have HS1 : Hid (w.heap.size + 3 ≤ w1.heap.size) := Hid.mk (by have h1 := hb1.size; have h2 := HSZ.out; omega)
  clear hb1 HB HG HF HZ HCS k0 k1 q0 q1 q2 q3 q4 q5 HSZ
  have hNN : m ≤ 20 := HN20.out
  go_upto_region 4 with fail
  go_cut [27, 30] (fun v27 v30 wx => ∃ a4 c4 b5 d5, v27 = .slice a4 m c4 ∧ v30 = .slice b5 m d5 ∧ Hid (Row2 wx (w.heap.size + 2) (.slice a4 m c4) (.slice b5 m d5)) ∧ Hid (IsRts wx a4 m c4 rs) ∧ Hid (FarB (w.heap.size + 3) a4) ∧ Hid (LstAt wx b5 m ts ∧ m ≤ d5 ∧ d5 ≤ maxLen) ∧ Hid (FarB (w.heap.size + 3) b5) ∧ Hid (∀ x y, a4 = some x → b5 = some y → x.block ≠ y.block) ∧ Hid (GaAt wx w.heap.size a m c b m d) ∧ Hid (Row6 wx (w.heap.size + 1) id lo fa re sz fa0 len cap) ∧ Hid (Below w.heap.size w wx) ∧ Hid (w.heap.size + 3 ≤ wx.heap.size))
  case first =>
    have hdd := dwB w1
    refine wp_region_held_drew (S := fun W => GaAt W w.heap.size a m c b m d ∧ Row6 W (w.heap.size + 1) id lo fa re sz fa0 len cap ∧ Below w.heap.size w W) (by kernel_rfl) ⟨HG1.out.kept hdd, HF1.out.kept hdd, bl2 HB1.out hdd⟩ (fun hHeld => ?_)
    refine wpAnyH_take (i := 0) (v := .pointer (some ⟨w.heap.size, 0, none⟩)) rfl (by kernel_rfl) (by kernel_rfl) (by kernel_rfl) (fun _ _ _ h => h) (Or.inl ⟨by rfl, fun W hW => by rfl⟩) hHeld ?_
    simp only [List.getElem_toArray, List.getElem_cons_zero, Act.put, List.setIfInBounds_toArray, List.set_cons_zero, List.set_cons_succ]
    refine wpAnyH_take (i := 1) (v := .slice a m c) rfl (by kernel_rfl) (by kernel_rfl) (by kernel_rfl) (fun _ _ _ h => h) (Or.inl ⟨by rfl, fun W hW => by have e0 := hW.1.cells.1; clear hW hHeld; go_simp⟩) hHeld ?_
    simp only [List.getElem_toArray, List.getElem_cons_zero, List.getElem_cons_succ, Act.put, List.setIfInBounds_toArray, List.set_cons_zero, List.set_cons_succ]
    refine wpAnyH_take (i := 3) (v := .pointer (some ⟨w.heap.size, 1, none⟩)) rfl (by kernel_rfl) (by kernel_rfl) (by kernel_rfl) (fun _ _ _ h => h) (Or.inl ⟨by rfl, fun W hW => by rfl⟩) hHeld ?_
    simp only [List.getElem_toArray, List.getElem_cons_zero, List.getElem_cons_succ, Act.put, List.setIfInBounds_toArray, List.set_cons_zero, List.set_cons_succ]
    refine wpAnyH_take (i := 4) (v := .slice b m d) rfl (by kernel_rfl) (by kernel_rfl) (by kernel_rfl) (fun _ _ _ h => h) (Or.inl ⟨by rfl, fun W hW => by have e0 := hW.1.cells.2; clear hW hHeld; go_simp⟩) hHeld ?_
    simp only [List.getElem_toArray, List.getElem_cons_zero, List.getElem_cons_succ, Act.put, List.setIfInBounds_toArray, List.set_cons_zero, List.set_cons_succ]
    refine wpAnyH_ready (rs := [2]) (by kernel_rfl) (by simp) ?_
    refine AllReadyH.cons rfl (fun K hK => ?_) AllReadyH.nil
    rw [if_pos (by rfl)]
    go_wp2_with fail
    refine (HCR.out _ hHeld.2.2).mono ?_
    rintro e w4 ⟨v4, rfl, ho4, hb4⟩
    have hf4 : FarB (w.heap.size + 3) (sliceAt v4) := far_own ho4 (Nat.le_trans HS1.out hdd.size)
    have hl4 := own_ltB ho4
    obtain ⟨a4, c4, rfl, hR4⟩ := rts_ofN ho4 HRR.out.len
    refine hK.out _ _ ⟨hHeld.1.kept hb4, hHeld.2.1.kept hb4, bl2 hHeld.2.2 hb4⟩ (fun hHeld4 => ?_)
    clear hK K
    refine wpAnyH_ready (rs := [5]) (by kernel_rfl) (by simp) ?_
    refine AllReadyH.cons rfl (fun K hK => ?_) AllReadyH.nil
    rw [if_pos (by rfl)]
    go_wp2_with fail
    refine (HCI.out _ hHeld4.2.2).mono ?_
    rintro e w5 ⟨v5, rfl, ho5, hb5⟩
    have hf5 : FarB (w.heap.size + 3) (sliceAt v5) := far_own ho5 (Nat.le_trans (Nat.le_trans HS1.out hdd.size) hb4.size)
    have hg5 := own_geB ho5
    obtain ⟨b5, d5, rfl⟩ := own_slice0 ho5
    have hc5 := own_caps ho5
    refine hK.out _ _ ⟨hHeld4.1.kept hb5, hHeld4.2.1.kept hb5, bl2 hHeld4.2.2 hb5⟩ (fun hHeld5 => ?_)
    clear hK K
    refine wpAnyH_take (i := 6) (v := .agg #[.slice a4 m c4, .slice b5 m d5]) rfl (by kernel_rfl) (by kernel_rfl) (by kernel_rfl) (fun _ _ _ h => h) (Or.inl ⟨by rfl, fun W hW => by clear hW hHeld hHeld4 hHeld5; go_simp⟩) hHeld5 ?_
    simp only [List.getElem_toArray, List.getElem_cons_zero, List.getElem_cons_succ, Act.put, List.setIfInBounds_toArray, List.set_cons_zero, List.set_cons_succ]
    have h25 : Row2 w5 (w.heap.size + 2) (.slice none 0 0) (.slice none 0 0) := ((HZ1.out.kept hdd).kept hb4).kept hb5
    have hsz5 : w.heap.size + 3 ≤ w5.heap.size := Nat.le_trans (Nat.le_trans HS1.out hdd.size) (Nat.le_trans hb4.size hb5.size)
    refine wpAnyH_ready (rs := [7]) (by kernel_rfl) (by simp) ?_
    refine AllReadyH.cons rfl (fun K hK => ?_) AllReadyH.nil
    rw [if_pos (by rfl)]
    refine op_store_row w5 (.tmp 8) (.tmp 31) 25 rfl (w.heap.size + 2) 25 _ #[.slice a4 m c4, .slice b5 m d5] rfl rfl h25 ga_i rfl (by simp [Value.oneCell']) ?_
    intro w6 h6 hg6
    have hG6 : GaAt w6 w.heap.size a m c b m d := (hg6.block _ (by omega) (by simp)).trans hHeld5.1
    have hF6 : Row6 w6 (w.heap.size + 1) id lo fa re sz fa0 len cap := (hg6.block _ (by omega) (by simp)).trans hHeld5.2.1
    have hB6 : Below w.heap.size w w6 := Below.grown hHeld5.2.2 hg6 (by omega) (fun q hq => by cases hq; omega)
    refine hK.out _ _ ⟨hG6, hF6, hB6⟩ (fun hHeld6 => ?_)
    clear hK K
    refine wpAnyH_done (by kernel_rfl) ?_ _
    have hR6 : IsRts w6 a4 m c4 rs := rts_grown (hR4.kept hb5) hf4 hg6
    have hL6 : LstAt w6 b5 m ts := (LstAt.of_own ho5).grown hg6 (fun x hx e => by have h1 := hf5 x hx; have h2 := Option.some.inj e; omega)
    go_wp2_with fail
    go_meet
    exact ⟨a4, c4, b5, d5, rfl, rfl, Hid.mk h6, Hid.mk hR6, Hid.mk hf4, Hid.mk ⟨hL6, hc5.1, hc5.2⟩, Hid.mk hf5, Hid.mk (fun x y hx hy e => by have h1 := hl4 x hx; have h2 := hg5 y hy; omega), Hid.mk hG6, Hid.mk hF6, Hid.mk hB6, Hid.mk (Nat.le_trans hsz5 hg6.size)⟩
  case rest =>
    obtain ⟨a4, c4', b5, d5, rfl, rfl, HO2, HR4x, HFa, HL5, HFb, HAP, HGx, HFx, HBx, HSx⟩ := hcut
    clear HB1 HZ1 HG1 HF1 HS1 HCR HCI
    have HLB : Hid (∀ x, b5 = some x → m = 0 ∨ x.block < wc.heap.size) := Hid.mk (fun x hx => lst_lt HL5.out.1 hx)
    obtain ⟨k0, k1⟩ := HGx.out.cells
    obtain ⟨i0, hi, hz0, hz1, hz2⟩ := info_parts info_ln
    go_wp2_with fail
    go_loopw [9, 35] (fun vq i wr => ∃ (k : Nat) (P : List LnR) (v : Value), k ≤ m ∧ v = vq ∧ i = .int .i64 k ∧ Hid (OwnLns wr wc.heap.size v P dt) ∧ Hid (P.map LnR.k = (sntL rs ts time bus id lo fa re sz len k).map (lnK time lo fa re sz len)) ∧ Hid (LstAt wr b5 m (newL rs ts time bus id lo fa re sz len k)) ∧ Hid (wc.grownBy wr (blkOf b5))) (fun _ i _ => m - (intOf i).toNat)
    case atStart => exact ⟨0, [], _, Nat.zero_le _, rfl, rfl, Hid.mk (OwnLns.nil _ _ _), Hid.mk rfl, Hid.mk HL5.out.1, Hid.mk (grown_refl _ _)⟩
    case round =>
      clear k0 k1
      obtain ⟨k, P, v, hk, rfl, rfl, HO, HM, HLk, HGR⟩ := hrel
      have HB := Hid.mk (show Below w.heap.size w wr from Below.grown HBx.out HGR.out HBx.out.size (fun q hq => by have := blk_far HFb.out hq; omega))
      have HGA : Hid (GaAt wr w.heap.size a m c b m d) := Hid.mk ((HGR.out.block _ HGx.out.lt (fun e => by have := blk_far HFb.out e.symm; omega)).trans HGx.out)
      have HFR : Hid (Row6 wr (w.heap.size + 1) id lo fa re sz fa0 len cap) := Hid.mk ((HGR.out.block _ HFx.out.lt (fun e => by have := blk_far HFb.out e.symm; omega)).trans HFx.out)
      have HOU : Hid (Row2 wr (w.heap.size + 2) (.slice a4 m c4') (.slice b5 m d5)) := Hid.mk ((HGR.out.block _ HO2.out.lt (fun e => by have := blk_far HFb.out e.symm; omega)).trans HO2.out)
      by_cases hlt : k < m
      · have hlt' : (k : Int) < (m : Int) := by omega
        obtain ⟨x, rfl⟩ := HRR.out.some hlt
        obtain ⟨z, rfl⟩ := HTT.out.some hlt
        obtain ⟨gB, cur, rfl, hcu, -⟩ := lst_some HL5.out.1 hlt
        have HGB : Hid (gB < wc.heap.size) := Hid.mk (Array.getElem?_eq_some_iff.1 hcu).1
        clear hcu
        obtain ⟨c0, c1, c2, c3, c4, c5, c6⟩ := (HRR.out.kept HB.out).cell x rfl k hlt
        have c7 := (HTT.out.kept HB.out).cell z rfl k hlt
        obtain ⟨r, hr⟩ : ∃ r, r = rs.getD k noR := ⟨_, rfl⟩
        obtain ⟨t, ht⟩ : ∃ t, t = ts.getD k 0 := ⟨_, rfl⟩
        have hokr := HOK.out k hlt
        rw [← hr, ← ht] at hokr
        rw [← hr] at c0 c1 c2 c3 c4 c5 c6
        rw [← ht] at c7
        have hokf : okFl r.f = true := by unfold okR at hokr; simp at hokr; exact hokr.1.2
        have hokad : addB r = true := by unfold okR at hokr; simp at hokr; exact hokr.2
        have htb : -1 ≤ t ∧ t ≤ 1000000 := by unfold okR fitR at hokr; simp at hokr; omega
        have hb1 := awB wr (rtC r)
        have HB1 := Hid.mk (bl2 HB.out hb1)
        have HGA1 := Hid.mk (HGA.out.kept hb1)
        have HV1 := Hid.mk (RtAt.new wr r)
        have HZ1 := Hid.mk (cell_kept hb1 c7)
        have HF1 := Hid.mk (HFR.out.kept hb1)
        have HO1 := Hid.mk (HO.out.kept hb1)
        have HL1 := Hid.mk (HLk.out.kept hb1)
        have HGR1 := Hid.mk (grown_below HGR.out hb1)
        have HOU1 := Hid.mk (HOU.out.kept hb1)
        have HCR := Hid.mk (HCA.out r hokf hokad _ (bl2 HB.out hb1))
        have HS0 : Hid (sntL rs ts time bus id lo fa re sz len (k + 1) = sntL rs ts time bus id lo fa re sz len k ++ (if sndB r t time bus id lo fa re sz len = true then [(r.tb, (id : Int) + r.add)] else [])) := Hid.mk (by rw [hr, ht]; rfl)
        have HN0 : Hid (newL rs ts time bus id lo fa re sz len (k + 1) = if sndB r t time bus id lo fa re sz len = true then (newL rs ts time bus id lo fa re sz len k).set k time else newL rs ts time bus id lo fa re sz len k) := Hid.mk (by rw [hr, ht]; rfl)
        have HSB : Hid (sndB r t time bus id lo fa re sz len = (carB r bus id lo fa re sz len && !soonB r t time)) := Hid.mk rfl
        clear hr ht hb1 c7 hokf hokad hokr
        generalize carB r bus id lo fa re sz len = CB at *
        obtain ⟨p0, p1, p2, p3, p4, p5⟩ := HF1.out.fr
        obtain ⟨fr, tb, ⟨fw, fm, flo⟩, add, ev⟩ := r
        unfold rtC at HB1 HGA1 HV1 HZ1 HF1 HO1 HL1 HGR1 HOU1 HCR p0 p1 p2 p3 p4 p5
        unfold Rt.val at HCR
        unfold frameV at HCR
        simp only at c0 c1 c2 c3 c4 c5 c6 HB1 HGA1 HV1 HZ1 HF1 HO1 HL1 HGR1 HOU1 HCR HS0 p0 p1 p2 p3 p4 p5
        go_wp2_with fail
        generalize wr.alloc (.cells #[.int .i64 fr, .int .i64 tb, .int .i64 fw, .int .i64 fm, .bool flo, .int .i64 add, .int .i64 ev] 45) = W1 at *
        refine HCR.out.mono ?_
        rintro e w2 ⟨⟨i', l', f', r', s', a', n', c', rfl, himp⟩, hb2⟩
        have hb3 := awB w2 (frameC i' l' f' r' s' a' n' c')
        have hb23 := bl2 hb2 hb3
        have HB3 := Hid.mk (bl2 HB1.out hb23)
        have HG3 := Hid.mk (HGA1.out.kept hb23)
        have HV3 := Hid.mk (HV1.out.kept hb23)
        have HZ3 := Hid.mk (cell_kept hb23 HZ1.out)
        have HF3 := Hid.mk (Row6.new w2 i' l' f' r' s' a' n' c')
        have HO3 := Hid.mk (HO1.out.kept hb23)
        have HL3 := Hid.mk (HL1.out.kept hb23)
        have HGR3 := Hid.mk (grown_below HGR1.out hb23)
        have HOU3 := Hid.mk (HOU1.out.kept hb23)
        have HIM := Hid.mk himp
        unfold frameC at HB3 HG3 HV3 HZ3 HF3 HO3 HL3 HGR3 HOU3
        clear hb2 hb3 hb23 himp HCR HB1 HGA1 HV1 HZ1 HF1 HO1 HL1 HGR1 HOU1 c0 c1 c2 c3 c4 c5 c6 p0 p1 p2 p3 p4 p5
        go_wp2_with fail
        generalize w2.alloc (.cells #[.int .i64 i', .bool l', .bool f', .bool r', .int .i64 s', .slice a' n' c'] 28) = W3 at *
        cases CB with
        | false =>
          have hsb := HSB.out
          simp only [Bool.false_and] at hsb
          rw [hsb] at HS0 HN0
          simp only [Bool.false_eq_true, if_false, List.append_nil] at HS0 HN0
          clear hsb HSB HIM
          have rk := fun d os => (HG3.out.kept (below_regrown W3 d os)).cells.2
          have r0 := fun d os => cell_kept (below_regrown W3 d os) HV3.out.c0
          have r1 := fun d os => cell_kept (below_regrown W3 d os) HV3.out.c1
          have r2 := fun d os => cell_kept (below_regrown W3 d os) HV3.out.c2
          have r3 := fun d os => cell_kept (below_regrown W3 d os) HV3.out.c3
          have r4 := fun d os => cell_kept (below_regrown W3 d os) HV3.out.c4
          have r5 := fun d os => cell_kept (below_regrown W3 d os) HV3.out.c5
          have r6 := fun d os => cell_kept (below_regrown W3 d os) HV3.out.c6
          have rz := fun d os => cell_kept (below_regrown W3 d os) HZ3.out
          have HC := Hid.mk (fun d os => HTS.out ⟨fr, tb, ⟨fw, fm, flo⟩, add, ev⟩ t (Go.Sort.grow (redrawn W3 d) os) htb)
          unfold Rt.val at HC
          simp only at r0 r1 r2 r3 r4 r5 r6
          refine wp_region_quiet_below (by kernel_rfl) (by kernel_rfl) ?_
          repeat (go_big_quiet_step ((go_at_call 31; with_reducible_and_instances exact Calls.regrown_of (HC.out _ _))))
          refine wpQuiet_nil ?_
          intro _ hw'
          obtain ⟨⟨dq, osq⟩, hw''⟩ := hw'
          have hbq := below_regrown W3 dq osq
          have HQB := Hid.mk hbq
          rw [hw'']
          have HB4 := Hid.mk (bl2 HB3.out hbq)
          have HG4 := Hid.mk (HG3.out.kept hbq)
          have HV4 := Hid.mk (HV3.out.kept hbq)
          have HF4 := Hid.mk (HF3.out.kept hbq)
          have HO4 := Hid.mk (HO3.out.kept hbq)
          have HL4 := Hid.mk (HL3.out.kept hbq)
          have HGR4 := Hid.mk (grown_below HGR3.out hbq)
          clear rk r0 r1 r2 r3 r4 r5 r6 rz HC hw'' hbq
          generalize Go.Sort.grow (redrawn W3 dq) osq = W4 at *
          go_wp2_with fail
          go_roundw
          case rel => exact ⟨k + 1, P, _, by omega, rfl, by go_num, HO4, by rw [HS0.out]; exact HM, by rw [HN0.out]; exact HL4, HGR4⟩
          case measure => simp [intOf]; omega
        | true =>
          obtain ⟨hi', e1, e2, e3, e4, e5, e6, e7⟩ := HIM.out rfl
          have e1 := e1.symm
          subst e1
          have e2 := e2.symm
          subst e2
          have e3 := e3.symm
          subst e3
          have e4 := e4.symm
          subst e4
          have e5 := e5.symm
          subst e5
          have e6 := e6.symm
          subst e6
          have e7 := e7.symm
          subst e7
          have HII := Hid.mk hi'
          clear HIM hi'
          cases hs : soonB ⟨fr, tb, ⟨fw, fm, flo⟩, add, ev⟩ t time with
          | true =>
            have hsb := HSB.out
            rw [hs] at hsb
            simp only [Bool.not_true, Bool.and_false] at hsb
            rw [hsb] at HS0 HN0
            simp only [Bool.false_eq_true, if_false, List.append_nil] at HS0 HN0
            clear hsb HSB
            have rk := fun d os => (HG3.out.kept (below_regrown W3 d os)).cells.2
            have r0 := fun d os => cell_kept (below_regrown W3 d os) HV3.out.c0
            have r1 := fun d os => cell_kept (below_regrown W3 d os) HV3.out.c1
            have r2 := fun d os => cell_kept (below_regrown W3 d os) HV3.out.c2
            have r3 := fun d os => cell_kept (below_regrown W3 d os) HV3.out.c3
            have r4 := fun d os => cell_kept (below_regrown W3 d os) HV3.out.c4
            have r5 := fun d os => cell_kept (below_regrown W3 d os) HV3.out.c5
            have r6 := fun d os => cell_kept (below_regrown W3 d os) HV3.out.c6
            have rz := fun d os => cell_kept (below_regrown W3 d os) HZ3.out
            have HC := Hid.mk (fun d os => HTS.out ⟨fr, tb, ⟨fw, fm, flo⟩, add, ev⟩ t (Go.Sort.grow (redrawn W3 d) os) htb)
            unfold Rt.val at HC
            simp only [hs] at HC
            simp only at r0 r1 r2 r3 r4 r5 r6
            refine wp_region_quiet_below (by kernel_rfl) (by kernel_rfl) ?_
            repeat (go_big_quiet_step ((go_at_call 31; with_reducible_and_instances exact Calls.regrown_of (HC.out _ _))))
            refine wpQuiet_nil ?_
            intro _ hw'
            obtain ⟨⟨dq, osq⟩, hw''⟩ := hw'
            have hbq := below_regrown W3 dq osq
            have HQB := Hid.mk hbq
            rw [hw'']
            have HB4 := Hid.mk (bl2 HB3.out hbq)
            have HG4 := Hid.mk (HG3.out.kept hbq)
            have HV4 := Hid.mk (HV3.out.kept hbq)
            have HF4 := Hid.mk (HF3.out.kept hbq)
            have HO4 := Hid.mk (HO3.out.kept hbq)
            have HL4 := Hid.mk (HL3.out.kept hbq)
            have HGR4 := Hid.mk (grown_below HGR3.out hbq)
            clear rk r0 r1 r2 r3 r4 r5 r6 rz HC hw'' hbq
            generalize Go.Sort.grow (redrawn W3 dq) osq = W4 at *
            clear hs
            go_wp2_with fail
            go_roundw
            case rel => exact ⟨k + 1, P, _, by omega, rfl, by go_num, HO4, by rw [HS0.out]; exact HM, by rw [HN0.out]; exact HL4, HGR4⟩
            case measure => simp [intOf]; omega
          | false =>
            have hsb := HSB.out
            rw [hs] at hsb
            simp only [Bool.not_false, Bool.and_true] at hsb
            rw [hsb] at HS0 HN0
            simp only [if_true] at HS0 HN0
            clear hsb HSB
            have rk := fun d os => (HG3.out.kept (below_regrown W3 d os)).cells.2
            have r0 := fun d os => cell_kept (below_regrown W3 d os) HV3.out.c0
            have r1 := fun d os => cell_kept (below_regrown W3 d os) HV3.out.c1
            have r2 := fun d os => cell_kept (below_regrown W3 d os) HV3.out.c2
            have r3 := fun d os => cell_kept (below_regrown W3 d os) HV3.out.c3
            have r4 := fun d os => cell_kept (below_regrown W3 d os) HV3.out.c4
            have r5 := fun d os => cell_kept (below_regrown W3 d os) HV3.out.c5
            have r6 := fun d os => cell_kept (below_regrown W3 d os) HV3.out.c6
            have rz := fun d os => cell_kept (below_regrown W3 d os) HZ3.out
            have HC := Hid.mk (fun d os => HTS.out ⟨fr, tb, ⟨fw, fm, flo⟩, add, ev⟩ t (Go.Sort.grow (redrawn W3 d) os) htb)
            unfold Rt.val at HC
            simp only [hs] at HC
            simp only at r0 r1 r2 r3 r4 r5 r6
            refine wp_region_quiet_below (by kernel_rfl) (by kernel_rfl) ?_
            repeat (go_big_quiet_step ((go_at_call 31; with_reducible_and_instances exact Calls.regrown_of (HC.out _ _))))
            refine wpQuiet_nil ?_
            intro _ hw'
            obtain ⟨⟨dq, osq⟩, hw''⟩ := hw'
            have hbq := below_regrown W3 dq osq
            have HQB := Hid.mk hbq
            rw [hw'']
            have HB4 := Hid.mk (bl2 HB3.out hbq)
            have HG4 := Hid.mk (HG3.out.kept hbq)
            have HV4 := Hid.mk (HV3.out.kept hbq)
            have HF4 := Hid.mk (HF3.out.kept hbq)
            have HO4 := Hid.mk (HO3.out.kept hbq)
            have HL4 := Hid.mk (HL3.out.kept hbq)
            have HGR4 := Hid.mk (grown_below HGR3.out hbq)
            clear rk r0 r1 r2 r3 r4 r5 r6 rz HC hw'' hbq
            generalize Go.Sort.grow (redrawn W3 dq) osq = W4 at *
            have HOU4 := Hid.mk (HOU3.out.kept (show Below W3.heap.size W3 W4 from HQB.out))
            have v1 := HV4.out.c1
            obtain ⟨p0, p1, p2, p3, p4, p5⟩ := HF4.out.fr
            have HLI := Hid.mk (HLN.out tb i' W4 HB4.out)
            unfold frameV lnV at HLI
            clear hs
            go_wp2_with fail
            refine HLI.out.mono ?_
            rintro e w5 ⟨a6, c6, rfl, hY5, hf5, hb5⟩
            have hx5 := awB w5 (.cells #[.int .i64 time, .int .i64 tb, .int .i64 i', .bool lo, .bool fa, .bool re, .int .i64 sz, .slice a6 len c6] 49)
            have HPL : Hid (P.length ≤ 20) := Hid.mk (by have h1 := congrArg List.length HM.out; simp only [List.length_map] at h1; have h2 := sntL_len rs ts time bus id lo fa re sz len k; have h3 := HN20.out; omega)
            have HO5 := Hid.mk ((HO4.out.kept hb5).kept hx5)
            have HY5 := Hid.mk (isBytes_below hY5 hx5)
            have HB5 := Hid.mk (bl2 (bl2 HB4.out hb5) hx5)
            have HL5' := Hid.mk ((HL4.out.kept hb5).kept hx5)
            have HGR5 := Hid.mk (grown_below (grown_below HGR4.out hb5) hx5)
            have HOU5 := Hid.mk ((HOU4.out.kept hb5).kept hx5)
            have HVA : Hid (∀ x, a6 = some x → v.ownBlock ≠ some x.block) := Hid.mk (fun x hx e => by have h1 := (own_ltV HO4.out.row) _ e; have h2 := hf5 x hx; omega)
            have HVF : Hid (∀ x, a6 = some x → wc.heap.size ≤ x.block) := Hid.mk (fun x hx => Nat.le_trans HGR4.out.size (hf5 x hx))
            have HCE := Hid.mk (new_cellsR w5 [.int .i64 time, .int .i64 tb, .int .i64 i', .bool lo, .bool fa, .bool re, .int .i64 sz, .slice a6 len c6] 49)
            clear hY5 hf5 hb5 hx5 p0 p1 p2 p3 p4 p5 v1 HLI HO4 HB4 HL4 HGR4 HOU4 HV4 HG4 HF4
            go_wp2_with (
               at_builtin
               refine wpList_append_two rfl (.tmp 59) (.tmp 65) 29 rfl wc.heap.size 49 i0 (.agg #[.int .i64 0, .int .i64 0, .int .i64 0, .bool false, .bool false, .bool false, .int .i64 0, .slice none 0 0]) 8 64 Tryd.underlying29 hi hz0 hz1 hz2 rfl (by decide) _ _ _ rfl HO5.out.row ⟨w5.heap.size, 0, none⟩ 1 1 [.int .i64 time, .int .i64 tb, .int .i64 i', .bool lo, .bool fa, .bool re, .int .i64 sz, .slice a6 len c6] rfl rfl HCE.out (by intro u hu; simp at hu; rcases hu with rfl | rfl | rfl | rfl | rfl | rfl | rfl | rfl <;> rfl) (by decide) (by have := HPL.out; unfold maxLen; omega) (by have := HPL.out; omega) HGR5.out.size ?_
               intro v7 w7 hown7 hgrow7 hblk7
               have HO7 := Hid.mk (HO5.out.add (v := ⟨time, tb, i', lo, fa, re, sz, a6, len, c6⟩) HY5.out HVA.out HVF.out hown7 hgrow7 hblk7)
               have HGQ : Hid (∀ q, v.ownBlock = some q → wc.heap.size ≤ q) := Hid.mk (fun q hq => (HO5.out.row.lt q hq).1)
               have HB7 := Hid.mk (Below.grown HB5.out hgrow7 HB5.out.size (fun q hq => Nat.le_trans HBx.out.size (HGQ.out q hq)))
               have HL7 := Hid.mk (HL5'.out.grown hgrow7 (fun x hx e => by have h1 := HGQ.out _ e; have h2 := HLB.out x hx; omega))
               have HGR7 := Hid.mk (grown_trans HGR5.out hgrow7 HGQ.out)
               have HOU7 : Hid (Row2 w7 (w.heap.size + 2) (.slice a4 m c4') (.slice (some ⟨gB, 0, none⟩) m d5)) := Hid.mk ((hgrow7.block _ HOU5.out.lt (fun e => by have h1 := HGQ.out _ e.symm; have h2 := HSx.out; omega)).trans HOU5.out)
               have y1 := HOU7.out.cells.2
               obtain ⟨z1, f1, -⟩ := HL7.out.cell hlt
               have HL8 := Hid.mk (HL7.out.set hlt time)
               have HO8 := Hid.mk (HO7.out.set (p := ⟨gB, k, none⟩) HGB.out (.int .i64 time))
               have HGR8 := Hid.mk (show wc.grownBy (w7.setCell ⟨gB, k, none⟩ (.int .i64 time)) (blkOf (some ⟨gB, 0, none⟩)) from grown_set_row HGR7.out k _)
               clear hown7 hgrow7 hblk7)
            have HM8 : Hid ((P ++ [(⟨time, tb, i', lo, fa, re, sz, a6, len, c6⟩ : LnR)]).map LnR.k = (sntL rs ts time bus id lo fa re sz len (k + 1)).map (lnK time lo fa re sz len)) := Hid.mk (by rw [HS0.out, List.map_append, List.map_append, HM.out, HII.out]; rfl)
            go_roundw
            case rel => exact ⟨k + 1, _, v7, by omega, rfl, by go_num, HO8, HM8, by rw [HN0.out]; exact HL8, HGR8⟩
            case measure => simp [intOf]; omega
      · obtain rfl : k = m := by omega
        have hR9 : IsRts wr a4 k c4' rs := rts_off HR4x.out HGR.out (fun x hx e => by
          cases b5 with
          | none => cases e
          | some y => exact HAP.out x y hx rfl (Option.some.inj e).symm)
        obtain ⟨l', lc, hv⟩ := own_slice0 HO.out.row
        subst hv
        have HR9 := Hid.mk hR9
        obtain ⟨y0, y1⟩ := HOU.out.cells
        obtain ⟨⟨e0, g0⟩, ⟨e1, g1⟩, -, hSX⟩ := HOU.out.ready (.slice a4 k c4') (.slice b5 k d5)
        have HSX := Hid.mk hSX
        have hlt0 : w.heap.size + 2 < wc.heap.size := by have := HSx.out; omega
        have HO9 := Hid.mk (((HO.out.set (p := ⟨w.heap.size + 2, 0, none⟩) hlt0 (.slice a4 k c4')).set (p := ⟨w.heap.size + 2, 1, none⟩) hlt0 (.slice b5 k d5)).base HBx.out.size)
        have HR8 := Hid.mk (rts_far (rts_far HR9.out HFa.out (show w.heap.size + 2 < w.heap.size + 3 by omega) 0 (.slice a4 k c4')) HFa.out (show w.heap.size + 2 < w.heap.size + 3 by omega) 1 (.slice b5 k d5))
        have HN8 := Hid.mk (nums_far (nums_far (HLk.out.nums HL5.out.2.1 HL5.out.2.2) HFb.out (show w.heap.size + 2 < w.heap.size + 3 by omega) 0 (.slice a4 k c4')) HFb.out (show w.heap.size + 2 < w.heap.size + 3 by omega) 1 (.slice b5 k d5))
        have HB9 := Hid.mk (set2_below HB.out (show w.heap.size ≤ w.heap.size + 2 by omega) (.slice a4 k c4') (.slice b5 k d5))
        clear hR9 hSX
        go_wp2_with fail
        refine bodyPost_ret (step_res _ _ (w.heap.size + 2) _ _ _ rfl rfl rfl HSX.out rfl) rfl ?_
        exact ⟨a4, c4', b5, d5, l', lc, P, rfl, HR8.out, HN8.out, HO9.out, HM.out, HB9.out⟩
end Bw
end Go.Proofs.YtapjiopnjfldhaaDoor
