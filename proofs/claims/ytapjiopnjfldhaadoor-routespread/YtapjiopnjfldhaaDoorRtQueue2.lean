/- Lines put behind those to come; for RouteGoes. -/
import Derived.Test.YtapjiopnjfldhaaDoorRtQueue
import Derived.Test.YtapjiopnjfldhaaDoorRtState
namespace Go.Proofs.YtapjiopnjfldhaaDoor
open Go.ChangeShapes Go.WideShapes Go.ChangeAt Go.RowKit
namespace Bw
open Bm
set_option linter.unusedVariables false
theorem lnsC_len (l : List LnR) : (lnsC l).length = l.length * 8 := flat_len LnR.cl 8 (fun _ => rfl) l
theorem lnsC_two (l M : List LnR) : lnsC (l ++ M) = lnsC l ++ lnsC M := by unfold lnsC; rw [List.flatMap_append]
theorem lns_oneC (l : List LnR) : ∀ u ∈ lnsC l, u.oneCell' = true := by
  intro u hu
  unfold lnsC at hu
  rw [List.mem_flatMap] at hu
  obtain ⟨r, -, hr⟩ := hu
  simp [LnR.cl] at hr
  rcases hr with rfl | rfl | rfl | rfl | rfl | rfl | rfl | rfl <;> rfl
theorem qu_append (w : World) (base g B : Nat) (v : Value) (l M : List LnR) (dt : List UInt8) (l' : Option Addr) (lc : Nat) (ty : TypeId) (hQ : QuAt w base g v l dt) (hM : OwnLns w B (.slice l' M.length lc) M dt) (hgB : g < B) (hsz : l.length + M.length ≤ 1000000) (hb : base ≤ w.heap.size) :
    ∃ v' w' g', (Builtin.append_ #[29, 29] ty #[v, .slice l' M.length lc]).run Tryd.prog w = .ok v' w' ∧ QuAt w' base g' v' (l ++ M) dt ∧ w.grownBy w' (some g) := by
  obtain ⟨i0, hi, hz0, hz1, hz2⟩ := info_parts info_ln
  obtain ⟨off, c, cur, rfl, h2, h3, h4, h5, h6⟩ := hQ.ex
  have hT : Tryd.prog.underlying 29 = some (.slice 49) := Tryd.underlying29
  have hfreshM : ∀ x ∈ M, ∀ y, x.a = some y → y.block ≠ g := fun x hx y hy e => by have := hM.fresh x hx y hy; omega
  by_cases h0 : M.length = 0
  · have hnil : M = [] := List.eq_nil_of_length_eq_zero h0
    subst hnil
    rw [List.append_nil]
    refine ⟨.slice (some ⟨g, off, none⟩) l.length c, w, g, ?_, hQ, ⟨rfl, rfl, rfl, Nat.le_refl _, fun _ _ _ => rfl⟩⟩
    cases l' with
    | none => exact run_append_nilm w 29 ty 49 i0 hT hi _ _ _ _ h3
    | some y =>
      have := run_append_room_cells (P := Tryd.prog) w 29 ty 49 i0 hT hi g off l.length c y 0 lc [] (by simp) (fun j u hu => by simp at hu) (fun u hu => by cases hu) (by omega) (fun j hj => by simp at hj) (fun j hj => by simp at hj)
      simpa [World.setCells] using this
  · obtain ⟨g2, c2, hv2, hB2, hg2⟩ := own_slice hM.row (by omega)
    cases hv2
    have hnews := hM.row.cells (g := g2) rfl
    have hlm := lnsC_len M
    have hll := lnsC_len l
    by_cases hroom : l.length + M.length ≤ c
    · have hfit : off + l.length * 8 + (lnsC M).length ≤ cur.size := by rw [hlm]; omega
      have hrun := run_append_room_cells (P := Tryd.prog) w 29 ty 49 i0 hT hi g off l.length c ⟨g2, 0, none⟩ M.length lc (lnsC M) (by rw [hz1]; exact hlm) hnews (lns_oneC M) hroom (fun j hj => by
        rw [hz1, cell_of_row w g _ cur _ _ h2, Option.isSome_iff_exists]
        exact ⟨_, Array.getElem?_eq_getElem (by omega)⟩) (fun j hj => frozen_of_row w g _ cur _ h2)
      rw [hz1] at hrun
      obtain ⟨hg, cur', k1, k2, k3, k4⟩ := setCells_row g 49 (lnsC M) (off + l.length * 8) cur w h2 hfit
      refine ⟨_, _, g, hrun, ⟨⟨off, c, cur', by rw [List.length_append], k1, by rw [List.length_append]; exact hroom, h4, by rw [k2]; exact h5, fun j u hj => ?_⟩, hQ.hg, fun x hx => ?_, fun x hx => ?_⟩, hg⟩
      · rw [lnsC_two] at hj
        by_cases hjl : j < l.length * 8
        · rw [List.getElem?_append_left (by rw [hll]; exact hjl)] at hj
          rw [k3 (off + j) (by omega)]
          exact h6 j u hj
        · rw [List.getElem?_append_right (by rw [hll]; omega), hll] at hj
          have := k4 (j - l.length * 8) u hj
          have e : off + j = off + l.length * 8 + (j - l.length * 8) := by omega
          rw [e]
          exact this
      · rcases List.mem_append.1 hx with hx | hx
        · exact bytes_grown (hQ.bytes x hx) hg (fun q0 y hy e => hQ.apart x hx q0 y hy (Option.some.inj e).symm)
        · exact bytes_grown (hM.bytes x hx) hg (fun q0 y hy e => hfreshM x hx y hy (Option.some.inj e).symm)
      · rcases List.mem_append.1 hx with hx | hx
        · exact hQ.apart x hx
        · exact fun _ => hfreshM x hx
    · obtain ⟨v', w', hrun, ho, hg⟩ := run_append_arg_grows (P := Tryd.prog) w 29 ty 49 i0 _ 8 64 hT hi hz0 hz1 hz2 rfl (by decide) ⟨g, off, none⟩ l.length c (lnsC l) hll (fun j u hu => by
        rw [Addr.add_lit, cell_of_row w g _ cur _ _ h2]
        exact h6 j u hu) ⟨g2, 0, none⟩ M.length lc (lnsC M) hlm hnews (by omega) (by unfold maxLen; omega) (by omega)
      have hg' : w.grownBy w' (some g) := ⟨hg.os, hg.tape, hg.output, hg.size, fun k hk hne => hg.block k hk (by simp)⟩
      rcases ho.2 with ⟨q1, q2⟩ | ⟨g', c', cur', rfl, q2, q3, q4, q5, q6, q7⟩
      · omega
      · have hcells := ho.cells (g := g') rfl
        have hltx : ∀ x ∈ l ++ M, 0 < x.len → ∀ y, x.a = some y → y.block < w.heap.size := by
          intro x hx q0 y hy
          have hb : IsBytes w x.a x.len x.cap dt := by
            rcases List.mem_append.1 hx with hx | hx
            · exact hQ.bytes x hx
            · exact hM.bytes x hx
          have hlt := block_lt_of_cell (hb.2.2.2.2 y hy 0 q0)
          have hbk : (y.add 0).block = y.block := by unfold Addr.add; split <;> rfl
          rwa [hbk] at hlt
        refine ⟨_, w', g', hrun, ⟨⟨0, c', cur', by rw [List.length_append], q3, by rw [List.length_append]; exact q4, q5, by rw [q6]; omega, fun j u hj => ?_⟩, Nat.le_trans hb q2, fun x hx => ?_, fun x hx q0 y hy e => ?_⟩, hg'⟩
        · rw [lnsC_two] at hj
          have := hcells j u hj
          rw [Addr.add_lit, Nat.zero_add, cell_of_row _ _ j _ _ _ q3] at this
          rw [Nat.zero_add]
          exact this
        · rcases List.mem_append.1 hx with hx | hx
          · exact bytes_grown (hQ.bytes x hx) hg (fun q0 y hy e => by cases e)
          · exact bytes_grown (hM.bytes x hx) hg (fun q0 y hy e => by cases e)
        · have := hltx x hx q0 y hy
          omega
/-- .. for the walk -/
theorem wpList_append_qu (w : World) {ops : Array Oper} {rest : List Oper} {o : Oper} {a : Act} {Q : Exit → Act → World → Prop} (hgd : o.guard = none) (s x : Operand)
    (ho : o.op = .call { callee := .builtin .append, args := #[s, x], argTypes := #[29, 29] })
    (base g B : Nat) (v : Value) (l M : List LnR) (dt : List UInt8) (l' : Option Addr) (lc m : Nat) (hs : a.eval s = v) (hx : a.eval x = .slice l' m lc) (hm : M.length = m) (hQ : QuAt w base g v l dt) (hM : OwnLns w B (.slice l' M.length lc) M dt) (hgB : g < B) (hsz : l.length + M.length ≤ 1000000) (hb : base ≤ w.heap.size)
    (h : ∀ v' w' g', QuAt w' base g' v' (l ++ M) dt → w.grownBy w' (some g) → wpList Tryd.prog ops Q rest (a.put o.dst v') w') : wpList Tryd.prog ops Q (o :: rest) a w := by
  subst hm
  refine wpList_plain hgd fun K hK => ?_
  obtain ⟨v', w', g', hr, h2, h3⟩ := qu_append w base g B v l M dt l' lc o.type hQ hM hgB hsz hb
  unfold Oper.wp
  simp [execOp, ho, resolve, invoke, builtin, hs, hx, hr, Result.andThen]
  exact hK _ _ (h v' w' g' h2 h3)
/-- what a gateway that let nothing through sends at once -/
theorem snt_nxt {rs : List Rt} {n : Nat} (hl : rs.length = n) (hev : ∀ k, k < n → (rs.getD k noR).ev = 0) (bus : Int) (id : Nat) (lo fa re : Bool) (sz : Int) (len : Nat) : sntL rs (neg1 n) 0 bus id lo fa re sz len n = nxt rs lo fa re sz len (bus, (id : Int)) := by
  have key : ∀ k, k ≤ n → sntL rs (neg1 n) 0 bus id lo fa re sz len k = nxt (rs.take k) lo fa re sz len (bus, (id : Int)) := by
    intro k
    induction k with
    | zero => intro _; simp [sntL, nxt]
    | succ k ih =>
      intro hk
      have hkl : k < rs.length := by omega
      have e1 : rs.take (k + 1) = rs.take k ++ [rs.getD k noR] := by
        rw [List.take_succ_eq_append_getElem hkl]
        simp [List.getD, hkl]
      rw [e1, nxt_add, ← ih (by omega)]
      show sntL rs (neg1 n) 0 bus id lo fa re sz len k ++ (if sndB (rs.getD k noR) ((neg1 n).getD k 0) 0 bus id lo fa re sz len = true then [((rs.getD k noR).tb, (id : Int) + (rs.getD k noR).add)] else []) = _
      congr 1
      have e2 : (neg1 n).getD k 0 = -1 := by simp [neg1, List.getD, show k < n by omega]
      have e3 : sndB (rs.getD k noR) ((neg1 n).getD k 0) 0 bus id lo fa re sz len = carB (rs.getD k noR) bus id lo fa re sz len := by
        unfold sndB soonB
        rw [e2]
        simp
      rw [e3]
      simp
  have := key n (Nat.le_refl _)
  rw [this, List.take_of_length_le (by omega)]
theorem stE_go {rs : List Rt} {n : Nat} (hl : rs.length = n) (hc : chkG rs (neg1 n) = 0) {bus id : Int} {lo fa re : Bool} {sz : Int} {len : Nat} (hf : frEn id lo fa re sz len = 0) (hb : busB bus = true) : stE rs (neg1 n) 0 bus id lo fa re sz len = 0 := by
  have h1 : lateB (neg1 n) 0 = false := late_no (fun j hj => by
    rw [neg1_len] at hj
    have e2 : (neg1 n).getD j 0 = -1 := by simp [neg1, List.getD, hj]
    rw [e2]
    omega)
  unfold stE
  simp [hc, hf, hb, h1, timB]
end Bw
end Go.Proofs.YtapjiopnjfldhaaDoor
