/- What route.Spread answers. -/
import Derived.Test.YtapjiopnjfldhaaDoorRtWebOf
import Derived.Test.YtapjiopnjfldhaaDoorRtRound
import Derived.Test.YtapjiopnjfldhaaDoorRtLinesOf
import Derived.Deep.RegionHeld3
import Derived.Deep.DeepCutAuto
namespace Go.Proofs.YtapjiopnjfldhaaDoor
open Go.ChangeShapes Go.WideShapes Go.ChangeAt Go.RowKit
namespace Bw
open Bm
set_option linter.unusedVariables false
/-- what is wrong with what is to be spread -/
def spE (rs : List Rt) (bus id : Int) (lo fa re : Bool) (sz : Int) (len : Nat) : Int := if chkG rs (neg1 rs.length) ≠ 0 then chkG rs (neg1 rs.length) else if frEn id lo fa re sz len ≠ 0 then frEn id lo fa re sz len else if busB bus = false then 3 else 0
/-- the rows of numbers of a web are rows -/
theorem web_rows {rs : List Rt} {lo fa re : Bool} {sz : Int} {len : Nat} {s : Pl} {P : List Pl} (hn : rs.length ≤ 20) (h : Web 100000 (nxt rs lo fa re sz len) s P P.length) : Kn.Rows (nxL (nxt rs lo fa re sz len) s P P.length) := by
  have hlen : (nxL (nxt rs lo fa re sz len) s P P.length).length = P.length := by simp [nxL]
  have hrow : ∀ j, j < P.length → (nxL (nxt rs lo fa re sz len) s P P.length).getD j [] = idxL P (nxt rs lo fa re sz len (P.getD j s)) := by
    intro j hj
    simp [nxL, List.getD, hj]
  have hout : ∀ j, ¬ j < P.length → (nxL (nxt rs lo fa re sz len) s P P.length).getD j [] = [] := by
    intro j hj
    rw [List.getD, List.getElem?_eq_none (by rw [hlen]; omega)]
    rfl
  have h0 : 0 < P.length := by
    have := h.head
    cases P with
    | nil => cases this
    | cons a l => simp
  refine ⟨by rw [hlen]; exact h0, by rw [hlen]; exact h.len, fun j => ?_, fun j x hx => ?_, fun i hi hl => ?_⟩
  · by_cases hj : j < P.length
    · rw [hrow j hj]
      exact Nat.le_trans (idxL_len _ _) (Nat.le_trans (nxt_len _ _ _ _ _ _ _) hn)
    · rw [hout j hj]; exact Nat.zero_le _
  · by_cases hj : j < P.length
    · rw [hrow j hj] at hx
      unfold idxL at hx
      obtain ⟨q, hq, rfl⟩ := List.mem_map.1 hx
      rw [List.mem_filter] at hq
      have hm : q ∈ P := by simpa using hq.2
      have := List.idxOf_lt_length_of_mem hm
      rw [hlen]
      omega
    · rw [hout j hj] at hx; cases hx
  · rw [hlen] at hl
    obtain ⟨j, hj, hx⟩ := h.from' i hi hl
    refine ⟨j, by rw [hlen]; omega, ?_⟩
    rw [hrow j (by omega)]
    unfold idxL
    refine List.mem_map.2 ⟨P.getD i s, List.mem_filter.2 ⟨hx, ?_⟩, ?_⟩
    · simp [List.getD, hl]
    · have e : P.getD i s = P[i] := by simp [List.getD, hl]
      rw [e, h.nodup.idxOf_getElem i hl]
/-- what follows the first of some places -/
theorem info_partsS {t : TypeId} {z : Value} {s b : Nat} (h : (Tryd.prog.info? t).map (fun i => (i.zero, i.size, i.bytes)) = some (some z, s, b)) : ∃ i, Tryd.prog.info? t = some i := by
  obtain ⟨i, hi, -⟩ := info_parts h
  exact ⟨i, hi⟩
theorem pls_own {w : World} {base : Nat} {x : Addr} {n c : Nat} {P : List Pl} (h : w.ownsRow base 106 2 (.slice (some x) n c) n (plC P)) (hl : P.length = n) : IsPls w (some x) n P := by
  subst hl
  exact ⟨rfl, fun e => (by cases e), fun y hy i hi => by cases hy; exact pl_at2 h hi _⟩
theorem pls_drop {w : World} {x : Addr} {n : Nat} {l : List Pl} (h : IsPls w (some x) n l) (hn : 1 ≤ n) : IsPls w (some (x.add 2)) (n - 1) (l.drop 1) := by
  refine ⟨by rw [List.length_drop, h.len], fun e => (by cases e), fun y hy i hi => ?_⟩
  cases hy
  have h1 := h.cell x rfl (i + 1) (by omega)
  have e : (x.add 2).add (i * 2) = x.add ((i + 1) * 2) := by
    unfold Addr.add
    (repeat' split) <;> simp_all <;> omega
  have e2 : (l.drop 1).getD i (0, 0) = l.getD (i + 1) (0, 0) := by simp [List.getD]
  rw [e, e2]
  exact h1
theorem slice_pls (x : Addr) (n c : Nat) (hk : 1 ≤ n) (hn : n ≤ c) : ∃ y C2, (∀ W : World, (Instr.slice 85 (.slice (some x) n c) (some (.int .i64 1)) none none).run Tryd.prog W = .ok (.slice (some y) (n - 1) C2) W) ∧ ∀ (w : World) (l : List Pl), IsPls w (some x) n l → IsPls w (some y) (n - 1) (l.drop 1) := by
  have hu : Tryd.prog.underlying 85 = some (.slice (Tryd.prog.elem 85)) := by kernel_rfl
  have hs : ∀ W : World, (sizeOf (Tryd.prog.elem 85)).run Tryd.prog W = .ok 2 W := fun W => by
    obtain ⟨i, hi⟩ := info_partsS info_pl
    rw [show Tryd.prog.elem 85 = 106 by kernel_rfl, run_sizeOf _ hi, show Tryd.prog.cellsOf 106 = 2 by kernel_rfl]
  have e := fun W : World => run_slice_l (w := W) 85 (some x) n c hu .i64 1 (by omega) (by omega)
  simp only [hs] at e
  simp only [Result.andThen, sliced, Option.map_some, Int.toNat_one, Nat.one_mul] at e
  by_cases hc : c = 1
  · simp only [if_pos hc] at e
    refine ⟨x, _, e, fun w l h => ?_⟩
    exact ⟨by rw [List.length_drop, h.len], fun e => (by cases e), fun y hy i hi => absurd hi (by omega)⟩
  · simp only [if_neg hc] at e
    exact ⟨_, _, e, fun w l h => pls_drop h hk⟩
theorem chk_newS {rs : List Rt} {n : Nat} (h : chkG rs (neg1 n) = 0) (hl : rs.length = n) : n ≤ 20 ∧ ∀ k, k < n → okR (rs.getD k noR) (-1) = true := by
  unfold chkG at h
  by_cases h1 : 20 < rs.length
  · rw [if_pos h1] at h; cases h
  · rw [if_neg h1] at h
    by_cases h2 : (neg1 n).length ≠ rs.length
    · rw [if_pos h2] at h; cases h
    · rw [if_neg h2] at h
      by_cases h3 : allR rs (neg1 n) = true
      · refine ⟨by omega, fun k hk => ?_⟩
        have := allR_at h3 (j := k) (by omega)
        rw [show (neg1 n).getD k 0 = -1 by simp [neg1, List.getD, hk]] at this
        exact this
      · rw [if_neg h3] at h; cases h
set_option maxHeartbeats 16000000 in
set_option maxRecDepth 100000 in
theorem spread_e1 (a : Option Addr) (n c : Nat) (rs : List Rt) (bus id : Int) (lo fa re : Bool) (sz : Int) (fa0 : Option Addr) (len cap : Nat) (dt : List UInt8) (w : World) (hR : IsRts w a n c rs) (hL : LastsAt w) (hS : SizesAt w) (hD : IsBytes w fa0 len cap dt) (hn : n ≤ 3000000000000) (hE : chkG rs (neg1 rs.length) ≠ 0) :
    Calls Tryd.prog 19 #[.slice a n c, .int .i64 bus, frameV id lo fa re sz fa0 len cap] w fun e w' => (e = .returned (.tuple #[.slice none 0 0, .int .i64 (chkG rs (neg1 rs.length))])) ∧ Below w.heap.size w w' := by
  have hlen : len ≤ maxLen := Nat.le_trans hD.2.1 hD.2.2.1
  have hrl := hR.len
  have hb0 := awB w (frameC id lo fa re sz fa0 len cap)
  have HF := Hid.mk (Row6.new w id lo fa re sz fa0 len cap)
  have HB := Hid.mk hb0
  have HNW := Hid.mk (new_any a n c rs (w.alloc (frameC id lo fa re sz fa0 len cap)) (hR.kept hb0) (hL.kept hb0) hn)
  have HCF := Hid.mk (fun (W : World) (h : Below w.heap.size w W) => frCheck_any id lo fa re sz fa0 len cap W (hS.kept h) hlen)
  have HBus := Hid.mk isBus_any
  rw [hrl] at hE
  unfold frameC at HB HF HNW
  unfold gaV at HNW
  unfold frameV at HCF ⊢
  have hE2 : (chkG rs (neg1 n) == 0) = false := by rw [beq_eq_false_iff_ne]; exact hE
  rw [hrl]
  obtain ⟨E, hEE⟩ : ∃ E, E = chkG rs (neg1 n) := ⟨_, rfl⟩
  rw [← hEE] at hE hE2 HNW ⊢
  clear hR hL hS hD hb0 hlen hEE
  go_enter Tryd.func19, Tryd.ntmps19
  go_wp2_with fail
  refine HNW.out.mono ?_
  rintro e w1 ⟨hb1, ⟨-, rfl⟩ | ⟨hX, -⟩⟩
  rotate_left
  · exact absurd hX hE
  have hg1 := awB w1 (.cells #[.slice none 0 0, .slice none 0 0] 25)
  have HB1 := Hid.mk (bl2 (bl2 HB.out hb1) hg1)
  clear hb1 hg1 HB HF HNW
  go_wp2_with fail
  refine bodyPost_ret (results_tmp2 rfl _ _ _) rfl ?_
  exact ⟨rfl, HB1.out⟩
set_option maxHeartbeats 16000000 in
set_option maxRecDepth 100000 in
theorem spread_e2 (a : Option Addr) (n c : Nat) (rs : List Rt) (bus id : Int) (lo fa re : Bool) (sz : Int) (fa0 : Option Addr) (len cap : Nat) (dt : List UInt8) (w : World) (hR : IsRts w a n c rs) (hL : LastsAt w) (hS : SizesAt w) (hD : IsBytes w fa0 len cap dt) (hn : n ≤ 3000000000000) (hE : chkG rs (neg1 rs.length) = 0) (hE2 : frEn id lo fa re sz len ≠ 0) :
    Calls Tryd.prog 19 #[.slice a n c, .int .i64 bus, frameV id lo fa re sz fa0 len cap] w fun e w' => (e = .returned (.tuple #[.slice none 0 0, .int .i64 (frEn id lo fa re sz len)])) ∧ Below w.heap.size w w' := by
  have hlen : len ≤ maxLen := Nat.le_trans hD.2.1 hD.2.2.1
  have hrl := hR.len
  have hb0 := awB w (frameC id lo fa re sz fa0 len cap)
  have HF := Hid.mk (Row6.new w id lo fa re sz fa0 len cap)
  have HB := Hid.mk hb0
  have HNW := Hid.mk (new_any a n c rs (w.alloc (frameC id lo fa re sz fa0 len cap)) (hR.kept hb0) (hL.kept hb0) hn)
  have HCF := Hid.mk (fun (W : World) (h : Below w.heap.size w W) => frCheck_any id lo fa re sz fa0 len cap W (hS.kept h) hlen)
  have HBus := Hid.mk isBus_any
  rw [hrl] at hE
  unfold frameC at HB HF HNW
  unfold gaV at HNW
  unfold frameV at HCF ⊢
  have hE3 : (frEn id lo fa re sz len == 0) = false := by rw [beq_eq_false_iff_ne]; exact hE2
  obtain ⟨E, hEE⟩ : ∃ E, E = frEn id lo fa re sz len := ⟨_, rfl⟩
  rw [← hEE] at hE2 hE3 HCF ⊢
  clear hR hL hS hD hb0 hlen hEE
  go_enter Tryd.func19, Tryd.ntmps19
  go_wp2_with fail
  refine HNW.out.mono ?_
  rintro e w1 ⟨hb1, ⟨hX, -⟩ | ⟨-, a', c', b', d', rfl, -, -⟩⟩
  · exact absurd hE hX
  have hg1 := awB w1 (.cells #[.slice a' n c', .slice b' n d'] 25)
  have HB1 := Hid.mk (bl2 (bl2 HB.out hb1) hg1)
  have HF1 := Hid.mk ((HF.out.kept hb1).kept hg1)
  clear hb1 hg1 HB HF HNW
  obtain ⟨q0, q1, q2, q3, q4, q5⟩ := HF1.out.fr
  go_wp2_with fail
  refine (HCF.out _ HB1.out).mono ?_
  rintro e w2 ⟨rfl, hb2⟩
  have HB2 := Hid.mk (bl2 HB1.out hb2)
  have HF2 := Hid.mk (HF1.out.kept hb2)
  clear hb2 HB1 HF1 HCF q0 q1 q2 q3 q4 q5
  go_wp2_with fail
  refine bodyPost_ret (results_tmp2 rfl _ _ _) rfl ?_
  exact ⟨rfl, HB2.out⟩
set_option maxHeartbeats 16000000 in
set_option maxRecDepth 100000 in
theorem spread_e3 (a : Option Addr) (n c : Nat) (rs : List Rt) (bus id : Int) (lo fa re : Bool) (sz : Int) (fa0 : Option Addr) (len cap : Nat) (dt : List UInt8) (w : World) (hR : IsRts w a n c rs) (hL : LastsAt w) (hS : SizesAt w) (hD : IsBytes w fa0 len cap dt) (hn : n ≤ 3000000000000) (hE : chkG rs (neg1 rs.length) = 0) (hE2 : frEn id lo fa re sz len = 0) (hE3 : busB bus = false) :
    Calls Tryd.prog 19 #[.slice a n c, .int .i64 bus, frameV id lo fa re sz fa0 len cap] w fun e w' => (e = .returned (.tuple #[.slice none 0 0, .int .i64 (3)])) ∧ Below w.heap.size w w' := by
  have hlen : len ≤ maxLen := Nat.le_trans hD.2.1 hD.2.2.1
  have hrl := hR.len
  have hb0 := awB w (frameC id lo fa re sz fa0 len cap)
  have HF := Hid.mk (Row6.new w id lo fa re sz fa0 len cap)
  have HB := Hid.mk hb0
  have HNW := Hid.mk (new_any a n c rs (w.alloc (frameC id lo fa re sz fa0 len cap)) (hR.kept hb0) (hL.kept hb0) hn)
  have HCF := Hid.mk (fun (W : World) (h : Below w.heap.size w W) => frCheck_any id lo fa re sz fa0 len cap W (hS.kept h) hlen)
  have HBus := Hid.mk isBus_any
  rw [hrl] at hE
  unfold frameC at HB HF HNW
  unfold gaV at HNW
  unfold frameV at HCF ⊢
  rw [hE2] at HCF
  clear hR hL hS hD hb0 hlen hE2
  go_enter Tryd.func19, Tryd.ntmps19
  go_wp2_with fail
  refine HNW.out.mono ?_
  rintro e w1 ⟨hb1, ⟨hX, -⟩ | ⟨-, a', c', b', d', rfl, -, -⟩⟩
  · exact absurd hE hX
  have hg1 := awB w1 (.cells #[.slice a' n c', .slice b' n d'] 25)
  have HB1 := Hid.mk (bl2 (bl2 HB.out hb1) hg1)
  have HF1 := Hid.mk ((HF.out.kept hb1).kept hg1)
  clear hb1 hg1 HB HF HNW
  obtain ⟨q0, q1, q2, q3, q4, q5⟩ := HF1.out.fr
  go_wp2_with fail
  refine (HCF.out _ HB1.out).mono ?_
  rintro e w2 ⟨rfl, hb2⟩
  have HB2 := Hid.mk (bl2 HB1.out hb2)
  have HF2 := Hid.mk (HF1.out.kept hb2)
  clear hb2 HB1 HF1 HCF q0 q1 q2 q3 q4 q5
  have hBX := HBus.out bus
  rw [hE3] at hBX
  have HBX := Hid.mk hBX
  clear hBX
  go_wp2_with (go_at_call 45; with_reducible refine (HBX.out _).mono ?_; rintro e wq ⟨rfl, hwq⟩; rw [hwq]; clear hwq)
  refine bodyPost_ret (results_tmp2 rfl _ _ _) rfl ?_
  exact ⟨rfl, HB2.out⟩
set_option maxHeartbeats 16000000 in
set_option maxRecDepth 100000 in
theorem spread_go (a : Option Addr) (n c : Nat) (rs : List Rt) (bus id : Int) (lo fa re : Bool) (sz : Int) (fa0 : Option Addr) (len cap : Nat) (dt : List UInt8) (w : World) (hR : IsRts w a n c rs) (hL : LastsAt w) (hS : SizesAt w) (hD : IsBytes w fa0 len cap dt) (hn : n ≤ 3000000000000) (hST : SortLn) (hlen0 : len ≤ 1000) (hE : chkG rs (neg1 rs.length) = 0) (hE2 : frEn id lo fa re sz len = 0) (hE3 : busB bus = true) :
    Calls Tryd.prog 19 #[.slice a n c, .int .i64 bus, frameV id lo fa re sz fa0 len cap] w fun e w' => (∃ (P : List Pl) (b : Bool) (a' : Option Addr) (n' c' : Nat) (E : Int), e = .returned (.tuple #[.slice a' n' c', .int .i64 E]) ∧ Web 100000 (nxt rs lo fa re sz len) (bus, id) P P.length ∧ (∀ p ∈ P, frEn p.2 lo fa re sz len = 0) ∧ Kn.Round (nxL (nxt rs lo fa re sz len) (bus, id) P P.length) b ∧
      (b = true → E = 13 ∧ n' = 0) ∧ (b = false → 1000 < P.length → E = 2 ∧ n' = 0) ∧ (b = false → P.length ≤ 1000 → E = 0 ∧ n' = P.length - 1 ∧ ∃ P', IsLns w' a' n' c' P' dt ∧ (P'.map LnR.k).Perm ((P.drop 1).map (plK lo fa re sz len)) ∧ P'.Pairwise (fun u v => ¬ (v.bs < u.bs ∨ (v.bs = u.bs ∧ v.id < u.id))))) ∧ Below w.heap.size w w' := by
  have hlen : len ≤ maxLen := Nat.le_trans hD.2.1 hD.2.2.1
  have hrl := hR.len
  have hb0 := awB w (frameC id lo fa re sz fa0 len cap)
  have HF := Hid.mk (Row6.new w id lo fa re sz fa0 len cap)
  have HB := Hid.mk hb0
  have HNW := Hid.mk (new_any a n c rs (w.alloc (frameC id lo fa re sz fa0 len cap)) (hR.kept hb0) (hL.kept hb0) hn)
  have HCF := Hid.mk (fun (W : World) (h : Below w.heap.size w W) => frCheck_any id lo fa re sz fa0 len cap W (hS.kept h) hlen)
  have HBus := Hid.mk isBus_any
  rw [hrl] at hE
  unfold frameC at HB HF HNW
  unfold gaV at HNW
  unfold frameV at HCF ⊢
  obtain ⟨h20, hok⟩ := chk_newS hE hrl
  have hid := frEn_idW hE2
  obtain ⟨idn, rfl⟩ : ∃ idn : Nat, id = (idn : Int) := ⟨id.toNat, by omega⟩
  have hbus : 0 ≤ bus ∧ bus < 4 := by unfold busB at hE3; simpa using hE3
  have HWO := Hid.mk (fun (W : World) (h : Below w.heap.size w W) => webOf_any a n c rs bus idn lo fa re sz fa0 len cap W (hR.kept h) hok h20 (hL.kept h) (hS.kept h) hlen hE2 hbus)
  have HLO := Hid.mk (fun (x0 : Option Addr) (m c0 : Nat) (pl : List Pl) (W : World) (h : Below w.heap.size w W) (hP : IsPls W x0 m pl) (hm : m ≤ 100000) => linesOf_any hST x0 m c0 pl (idn : Int) lo fa re sz fa0 len cap dt W hP hm (isBytes_below hD h) hlen0)
  rw [hE2] at HCF
  unfold frameV at HWO HLO
  clear hR hL hS hD hb0 hlen hE2 hid hST hok
  go_enter Tryd.func19, Tryd.ntmps19
  go_wp2_with fail
  refine HNW.out.mono ?_
  rintro e w1 ⟨hb1, ⟨hX, -⟩ | ⟨-, a', c', b', d', rfl, -, -⟩⟩
  · exact absurd hE hX
  have hg1 := awB w1 (.cells #[.slice a' n c', .slice b' n d'] 25)
  have HB1 := Hid.mk (bl2 (bl2 HB.out hb1) hg1)
  have HF1 := Hid.mk ((HF.out.kept hb1).kept hg1)
  clear hb1 hg1 HB HF HNW
  obtain ⟨q0, q1, q2, q3, q4, q5⟩ := HF1.out.fr
  go_wp2_with fail
  refine (HCF.out _ HB1.out).mono ?_
  rintro e w2 ⟨rfl, hb2⟩
  have HB2 := Hid.mk (bl2 HB1.out hb2)
  have HF2 := Hid.mk (HF1.out.kept hb2)
  clear hb2 HB1 HF1 HCF q0 q1 q2 q3 q4 q5
  have hBX := HBus.out bus
  rw [hE3] at hBX
  have HBX := Hid.mk hBX
  clear hBX
  obtain ⟨q0, q1, q2, q3, q4, q5⟩ := HF2.out.fr
  go_wp2_with (go_at_call 45; with_reducible refine (HBX.out _).mono ?_; rintro e wq ⟨rfl, hwq⟩; rw [hwq]; clear hwq)
  refine (HWO.out _ HB2.out).mono ?_
  rintro e w3 ⟨P, vP, vN, rfl, hWE, hFE, hPo, hNx, hb3⟩
  have hRw := web_rows (by rw [hrl]; exact h20) hWE
  obtain ⟨m, hm⟩ : ∃ m, m = P.length := ⟨_, rfl⟩
  have hLl : (nxL (nxt rs lo fa re sz len) (bus, (idn : Int)) P P.length).length = m := by rw [hm]; simp [nxL]
  have hmp : 0 < m := by rw [← hLl]; exact hRw.pos
  have hmm : m ≤ 100000 := by rw [← hLl]; exact hRw.max
  obtain ⟨x, cN, hvN, hNn⟩ := hNx.read (by rw [hLl]; exact hmp)
  obtain ⟨g, cP, hvP, -, -⟩ := own_slice hPo (by omega)
  rw [hLl] at hvN
  rw [← hm] at hvP
  have hcP : m ≤ cP ∧ cP ≤ maxLen := by
    rcases hPo.2 with ⟨h1, h2⟩ | ⟨g', cap', cur, h1, h2, h3, h4, h5, h6⟩
    · rw [h1] at hvP; cases hvP
    · rw [h1] at hvP; cases hvP; exact ⟨by rw [hm]; exact h4, h5⟩
  have hPP := pls_own (P := P) (x := ⟨g, 0, none⟩) (c := cP) (n := m) (by rw [hm, ← hm, ← hvP, hm]; exact hPo) hm.symm
  have hg3 := awB w3 (.cells #[vP, vN] 88)
  have HB3 := Hid.mk (bl2 (bl2 HB2.out hb3) hg3)
  have HF3 := Hid.mk ((HF2.out.kept hb3).kept hg3)
  have HW3 : Hid ((w3.alloc (.cells #[vP, vN] 88)).heap[w3.heap.size]? = some (.cells #[vP, vN] 88 (0, 0))) := Hid.mk (heap_alloc_new w3 _)
  have HRD := Hid.mk (fun (W : World) (h : Below w3.heap.size w3 W) => round_any _ m (some ⟨g, 0, none⟩) cP x cN W hLl hRw (hNn.kept h))
  have HWE := Hid.mk hWE
  have HFE := Hid.mk hFE
  have HPP := Hid.mk hPP
  have HG3 := Hid.mk hg3
  have HM := Hid.mk hm
  subst hvN
  subst hvP
  have z0 := (cell_of_row _ _ 0 _ _ _ HW3.out)
  have z1 := (cell_of_row _ _ 1 _ _ _ HW3.out)
  have hm63 : (m : Int) ≤ 100000 := by omega
  obtain ⟨y, C2, hsl, hdr⟩ := slice_pls ⟨g, 0, none⟩ m cP hmp hcP.1
  have HDR := Hid.mk hdr
  clear hWE hFE hPo hNx hb3 hRw hLl hNn hPP hg3 HB2 HF2 q0 q1 q2 q3 q4 q5 hm hdr hcP HWO HBX
  go_wp2_with fail
  refine (HRD.out _ HG3.out).mono ?_
  rintro e w4 ⟨b, rfl, hRo, hb4⟩
  have HRO := Hid.mk hRo
  have HB4 := Hid.mk (bl2 HB3.out hb4)
  have HF4 := Hid.mk (HF3.out.kept hb4)
  have HP4 := Hid.mk (IsPls.kept (IsPls.kept HPP.out HG3.out) hb4)
  have u0 := cell_kept hb4 z0
  have u1 := cell_kept hb4 z1
  clear hRo hb4 HB3 HF3 HW3 HRD z0 z1 HPP
  cases b with
  | true =>
    go_wp2_with fail
    refine bodyPost_ret (results_tmp2 rfl _ _ _) rfl ?_
    exact ⟨⟨P, true, none, 0, 0, 13, rfl, HWE.out, HFE.out, HRO.out, fun _ => ⟨rfl, rfl⟩, (fun h => by cases h), (fun h => by cases h)⟩, HB4.out⟩
  | false =>
    by_cases hbig : 1000 < m
    · have hbig' : (1000 : Int) < (m : Int) := by omega
      go_wp2_with fail
      refine bodyPost_ret (results_tmp2 rfl _ _ _) rfl ?_
      exact ⟨⟨P, false, none, 0, 0, 2, rfl, HWE.out, HFE.out, HRO.out, (fun h => by cases h), fun _ _ => ⟨rfl, rfl⟩, fun _ h => absurd h (by rw [← HM.out]; omega)⟩, HB4.out⟩
    · have hbig' : ¬ (1000 : Int) < (m : Int) := by omega
      have HLC := Hid.mk (HLO.out (some y) (m - 1) C2 (P.drop 1) w4.drew HB4.out.drew (HDR.out w4.drew P (HP4.out.kept (Below.refl _ _).drew)) (by omega))
      obtain ⟨q0, q1, q2, q3, q4, q5⟩ := HF4.out.fr
      have d0 : w4.drew.cell? ⟨w3.heap.size, 0, none⟩ = some (.slice (some ⟨g, 0, none⟩) m cP) := u0
      have e0 : w4.drew.cell? ⟨w.heap.size, 0, none⟩ = some (.int .i64 (idn : Int)) := q0
      have e1 : w4.drew.cell? ⟨w.heap.size, 1, none⟩ = some (.bool lo) := q1
      have e2 : w4.drew.cell? ⟨w.heap.size, 2, none⟩ = some (.bool fa) := q2
      have e3 : w4.drew.cell? ⟨w.heap.size, 3, none⟩ = some (.bool re) := q3
      have e4 : w4.drew.cell? ⟨w.heap.size, 4, none⟩ = some (.int .i64 sz) := q4
      have e5 : w4.drew.cell? ⟨w.heap.size, 5, none⟩ = some (.slice fa0 len cap) := q5
      clear HLO HDR HP4 u1
      go_upto_region 14 with fail
      go_region_held3 (fun w' => w'.cell? ⟨w3.heap.size, 0, none⟩ = some (.slice (some ⟨g, 0, none⟩) m cP) ∧ w'.cell? ⟨w.heap.size, 0, none⟩ = some (.int .i64 (idn : Int)) ∧ w'.cell? ⟨w.heap.size, 1, none⟩ = some (.bool lo) ∧ w'.cell? ⟨w.heap.size, 2, none⟩ = some (.bool fa) ∧ w'.cell? ⟨w.heap.size, 3, none⟩ = some (.bool re) ∧ w'.cell? ⟨w.heap.size, 4, none⟩ = some (.int .i64 sz) ∧ w'.cell? ⟨w.heap.size, 5, none⟩ = some (.slice fa0 len cap)) (simp [*]) (first | (go_at_call 48; with_reducible refine HLC.out.mono ?_; rintro e w5 ⟨a5, c5, P5, rfl, hL5, hP5, hS5, hb5⟩; have HL5 := Hid.mk hL5; have HP5 := Hid.mk hP5; have HS5 := Hid.mk hS5; have HB5 := Hid.mk (bl2 HB4.out.drew hb5); have d0 := cell_kept hb5 d0; have e0 := cell_kept hb5 e0; have e1 := cell_kept hb5 e1; have e2 := cell_kept hb5 e2; have e3 := cell_kept hb5 e3; have e4 := cell_kept hb5 e4; have e5 := cell_kept hb5 e5; clear hL5 hP5 hS5 hb5))
      go_wp2_with fail
      refine bodyPost_ret (results_tmp2 rfl _ _ _) rfl ?_
      refine ⟨⟨P, false, a5, m - 1, c5, 0, rfl, HWE.out, HFE.out, HRO.out, (fun h => by cases h), fun _ h => absurd h (by rw [← HM.out]; omega), fun _ _ => ⟨rfl, by rw [HM.out], P5, HL5.out, HP5.out, HS5.out⟩⟩, HB5.out⟩
end Bw
end Go.Proofs.YtapjiopnjfldhaaDoor
