/- Joined out of our texts: NumRow, WEach, EachBits, AppTwo, WSend1, WireLeast, WSend2, OnlyInt, WireApart, WSend, EqualN, Wired, RefIs, EqualB, RefSame, NoFrame, WnlawA. -/
import Derived.Test.YthdhhmflfdbkhaaGreatDoorBase8
import Derived.Test.YthdhhmflfdbkhaaGreatDoorLawWireNoisePAE
import Derived.Test.YthdhhmflfdbkhaaGreatDoorLawWireNoisePAA
import Derived.Test.YthdhhmflfdbkhaaGreatDoorLawWireNoisePAB
import Derived.WalkKit
import Derived.OwnWalk
import Derived.OneCell
import Derived.Laws.AppendOwn
import Derived.Test.YthdhhmflfdbkhaaGreatDoorLawWireNoisePAD
import Derived.Test.YthdhhmflfdbkhaaGreatDoorFrameMath
/- What slices.Index and slices.Contains answer of numbers. -/
namespace Go.Proofs.YthdhhmflfdbkhaaGreatDoor
open Go.ChangeShapes Go.WideShapes Go.ChangeAt Go.RowKit
namespace Bw
open Bm

/-- these texts lie in block g, from off on -/
def StrsAt (w : World) (g off : Nat) (rows : List (List UInt8)) : Prop := ∀ i, i < rows.length → w.cell? ⟨g, off + i, none⟩ = some (.string ⟨(rows.getD i []).toArray⟩)
/-- these numbers lie in block g, from off on -/
def NumsAt (w : World) (g off : Nat) (xs : List Int) : Prop := ∀ i, i < xs.length → w.cell? ⟨g, off + i, none⟩ = some (.int .i64 (xs.getD i 0))
theorem txt_eq (a b : List UInt8) : ((ByteArray.mk a.toArray).toList == (ByteArray.mk b.toArray).toList) = decide (a = b) := by
  rw [ByteArray.toList_eq, ByteArray.toList_eq]
  by_cases h : a = b
  · subst h; simp
  · rw [decide_eq_false h]; simpa using h

set_option maxHeartbeats 1000000 in
theorem indexN (g off n c : Nat) (xs : List Int) (v : Int) (w : World) (hn : xs.length = n) (hm : n ≤ 1000) (hx : NumsAt w g off xs) :
    Calls Tryz.prog 17 #[.slice (some ⟨g, off, none⟩) n c, .int .i64 v] w fun e w' => e = .returned (.int .i64 (idxG xs v)) ∧ w' = w := by
  have HX := Hid.mk hx
  have HN := Hid.mk hn
  clear hx hn
  go_enter Tryz.func17, Tryz.ntmps17
  go_wp2_with fail
  go_loopw [8] (fun i wr => ∃ j : Nat, j ≤ n ∧ i = .int .i64 j ∧ Hid (v ∉ xs.take j) ∧ wr = w) (fun i _ => n - (intOf i).toNat)
  case atStart => exact ⟨0, Nat.zero_le _, rfl, Hid.mk (by simp), rfl⟩
  case round =>
    obtain ⟨j, hj, rfl, HV, hwr⟩ := hrel
    subst hwr
    by_cases hlt : j < n
    · have hc := HX.out j (by rw [HN.out]; exact hlt)
      have hlt' : (j : Int) < (n : Int) := by omega
      have hjl : j < xs.length := by rw [HN.out]; exact hlt
      by_cases he : v = xs.getD j 0
      · have hb : (v == xs.getD j 0) = true := by rw [← he]; simp
        have HRES := Hid.mk (idxG_hit xs v 0 j hjl HV.out he)
        generalize xs.getD j 0 = y at *
        clear hjl he
        go_wp2_with fail
        go_ret
        exact ⟨by rw [HRES.out]; rfl, rfl⟩
      · have hb : (v == xs.getD j 0) = false := by simpa using he
        have HNX := Hid.mk (idxG_next xs v 0 j hjl HV.out he)
        generalize xs.getD j 0 = y at *
        clear hjl he
        go_wp2_with fail
        go_roundw
        case rel => exact ⟨j + 1, by omega, by go_num, HNX, by first | rfl | trivial⟩
        case measure => simp [intOf]; omega
    · have e : j = n := by omega
      subst e
      have HRES := Hid.mk (idxG_none xs v (by
        have := HV.out
        rwa [← HN.out, List.take_length] at this))
      go_wp2_with fail
      go_ret
      exact ⟨by rw [HRES.out]; rfl, rfl⟩
set_option maxHeartbeats 1000000 in
theorem containsN (g off n c : Nat) (xs : List Int) (v : Int) (w : World) (hn : xs.length = n) (hm : n ≤ 1000) (hx : NumsAt w g off xs) :
    Calls Tryz.prog 43 #[.slice (some ⟨g, off, none⟩) n c, .int .i64 v] w fun e w' => e = .returned (.bool (decide (v ∈ xs))) ∧ w' = w := by
  have h1 := indexN g off n c xs v w hn hm hx
  have he : decide (0 ≤ idxG xs v) = decide (v ∈ xs) := by rw [decide_eq_decide]; exact idxG_pos xs v
  have HE := Hid.mk he
  generalize idxG xs v = q at *
  clear he hn hx
  go_enter Tryz.func43, Tryz.ntmps43
  go_wp2_with fail
  refine h1.mono ?_
  rintro e w1 ⟨rfl, hw1⟩
  subst hw1
  go_wp2_with fail
  go_ret
  exact ⟨by rw [← HE.out]; rfl, rfl⟩
end Bw
end Go.Proofs.YthdhhmflfdbkhaaGreatDoor

/- Texts as cells; the first error of frames. -/
namespace Go.Proofs.YthdhhmflfdbkhaaGreatDoor
open Go.ChangeShapes Go.WideShapes Go.ChangeAt Go.RowKit
namespace Bw
open Bm Cm

theorem info_str : (Tryz.prog.info? 9).map (fun i => (i.zero, i.size, i.bytes)) = some (some (.string ⟨#[]⟩), 1, 16) := by kernel_rfl
/-- texts as cells -/
def strC (l : List (List UInt8)) : List Value := l.map fun r => .string ⟨r.toArray⟩
theorem strC_append (a b : List (List UInt8)) : strC (a ++ b) = strC a ++ strC b := by simp [strC]
theorem strC_length (l : List (List UInt8)) : (strC l).length = l.length := by simp [strC]
theorem strs_of {w : World} {base g n cap : Nat} {l : List (List UInt8)} (h : w.ownsRow base 9 1 (.slice (some ⟨g, 0, none⟩) n cap) n (strC l)) : StrsAt w g 0 l := by
  intro i hi
  have hl : (strC l).length = n * 1 := h.1
  rw [strC_length] at hl
  rw [Nat.zero_add, h.cellAt i (by omega)]
  simp [strC, List.getD, hi]
/-- the first error of frames -/
def firE : List Fr → Int
  | [] => 0
  | f :: l => if frE f = 0 then firE l else frE f
theorem firE_at : ∀ (a : List Fr) (f : Fr) (b : List Fr), (∀ g ∈ a, frE g = 0) → frE f ≠ 0 → firE (a ++ f :: b) = frE f
  | [], f, b, _, h => by rw [List.nil_append, firE, if_neg h]
  | g :: a, f, b, ha, h => by rw [List.cons_append, firE, if_pos (ha g List.mem_cons_self), firE_at a f b (fun x hx => ha x (List.mem_cons_of_mem _ hx)) h]
theorem firE_zero : ∀ (l : List Fr), firE l = 0 ↔ ∀ f ∈ l, frE f = 0
  | [] => by simp [firE]
  | f :: l => by
    rw [firE]
    by_cases h : frE f = 0
    · rw [if_pos h, firE_zero l]; simp [h]
    · rw [if_neg h]; simp [h]
theorem firE_take (l : List FrV) (k : Nat) (hk : k < l.length) (h : ∀ v ∈ l.take k, frE v.f = 0) (hE : frE l[k].f ≠ 0) : firE (l.map (·.f)) = frE l[k].f := by
  have e : l = l.take k ++ l[k] :: l.drop (k + 1) := by rw [List.getElem_cons_drop, List.take_append_drop]
  have e2 : l.map (·.f) = (l.take k).map (·.f) ++ l[k].f :: (l.drop (k + 1)).map (·.f) := by
    have := congrArg (List.map (·.f)) e
    rw [List.map_append, List.map_cons] at this
    exact this
  rw [e2]
  refine firE_at _ _ _ (fun g hg => ?_) hE
  obtain ⟨v, hv, rfl⟩ := List.mem_map.1 hg
  exact h v hv
theorem take_all {l : List FrV} {k : Nat} (hk : k < l.length) (h : ∀ v ∈ l.take k, frE v.f = 0) (hE : frE l[k].f = 0) : ∀ v ∈ l.take (k + 1), frE v.f = 0 := by
  intro v hv
  rw [List.take_succ_eq_append_getElem hk, List.mem_append, List.mem_singleton] at hv
  rcases hv with hv | rfl
  · exact h v hv
  · exact hE
theorem add_next (x : Addr) (m j : Nat) : x.add (m + (j + 1)) = ⟨(x.add m).block, (x.add m).off + (j + 1), none⟩ := by
  unfold Addr.add
  by_cases h : m = 0
  · subst h; simp
  · simp [h]; omega
theorem IsFrames.kept {w w' : World} {a : Option Addr} {n cap : Nat} {l : List FrV} (h : IsFrames w a n cap l) (hb : Below w.heap.size w w') : IsFrames w' a n cap l :=
  ⟨h.len, h.le, h.max, h.none, fun x hx i hi k hk => cell_kept hb (h.cell x hx i hi k hk), fun i hi => isBytes_below (h.bytes i hi) hb⟩
end Bw
end Go.Proofs.YthdhhmflfdbkhaaGreatDoor

/- What wire.each makes of frames with frame.Bits: the rows of all, or the first error. -/
namespace Go.Proofs.YthdhhmflfdbkhaaGreatDoor
open Go.ChangeShapes Go.WideShapes Go.ChangeAt Go.RowKit
namespace Bw
open Bm Cm
set_option maxHeartbeats 4000000 in
set_option maxRecDepth 100000 in
theorem eachBits_any (a : Option Addr) (n cap : Nat) (l : List FrV) (w : World) (hS : SizesAt w) (hR : RulesAt w) (hF : IsFrames w a n cap l) (hn : n ≤ 6) :
    Calls Tryz.prog 40 #[.slice a n cap, .func (.func 29) #[] #[]] w fun e w' =>
      (firE (l.map (·.f)) ≠ 0 → e = .returned (.tuple #[.slice none 0 0, .int .i64 (firE (l.map (·.f)))])) ∧
      (firE (l.map (·.f)) = 0 → ∃ v, e = .returned (.tuple #[v, .int .i64 0]) ∧ w'.ownsRow w.heap.size 9 1 v n (strC (l.map fun v => bitsL v.f))) ∧ Below w.heap.size w w' := by
  obtain ⟨i0, hi, hz0, hz1, hz2⟩ := info_parts info_str
  have HF := Hid.mk hF
  have HS := Hid.mk hS
  have HR := Hid.mk hR
  clear hF hS hR
  go_enter Tryz.func40, Tryz.ntmps40
  go_wp2_with fail
  go_loopw [6, 13] (fun r i wr => ∃ k : Nat, k ≤ n ∧ i = .int .i64 k ∧ Hid (wr.ownsRow w.heap.size 9 1 r k (strC ((l.take k).map fun v => bitsL v.f))) ∧ Hid (∀ v ∈ l.take k, frE v.f = 0) ∧ Hid (Below w.heap.size w wr)) (fun _ i _ => n - (intOf i).toNat)
  case atStart => exact ⟨0, Nat.zero_le _, rfl, Hid.mk (by simpa [strC] using World.ownsRow_nil _ _ _ _), Hid.mk (by simp), Hid.mk (Below.refl _ _)⟩
  case round =>
    obtain ⟨k, hk, rfl, HO, HZ, HB⟩ := hrel
    by_cases hlt : k < n
    · have hlt' : (k : Int) < (n : Int) := by omega
      have hkl : k < l.length := by rw [HF.out.len]; exact hlt
      cases a with
      | none => exact absurd (HF.out.none rfl) (by omega)
      | some x =>
        have cc := fun (j : Nat) (hj : j < 6) => cell_kept HB.out (HF.out.cell x rfl k hkl j hj)
        have hby := isBytes_below (HF.out.bytes k hkl) (show Below w.heap.size w wr from HB.out)
        have hfir := firE_take l k hkl HZ.out
        have hall := take_all hkl HZ.out
        have htk : strC ((l.take (k + 1)).map fun v => bitsL v.f) = strC ((l.take k).map fun v => bitsL v.f) ++ [.string ⟨(bitsL l[k].f).toArray⟩] := by
          rw [List.take_succ_eq_append_getElem hkl, List.map_append, strC_append]; rfl
        generalize l[k] = v at *
        obtain ⟨f, fa, fl, fc⟩ := v
        have c0 := cc 0 (by omega)
        have c1 := cc 1 (by omega)
        have c2 := cc 2 (by omega)
        have c3 := cc 3 (by omega)
        have c4 := cc 4 (by omega)
        have c5 := cc 5 (by omega)
        rw [add_next] at c1 c2 c3 c4 c5
        rw [Nat.add_zero] at c0
        simp only [FrV.cells, List.getElem_cons_zero, List.getElem_cons_succ, Nat.reduceAdd] at c0 c1 c2 c3 c4 c5
        simp only at hby hfir hall htk
        have hbx := below_box wr f.id f.lo f.fa f.re f.sz fa fl fc
        have hby2 := isBytes_below hby hbx
        have hB2 := bl2 HB.out hbx
        have ha := frBits_any f fa fl fc _ (HS.out.kept hB2) (HR.out.kept hB2) hby2
        have HO2 := Hid.mk (HO.out.alloc (frameC f.id f.lo f.fa f.re f.sz fa fl fc))
        have HB2 := Hid.mk hB2
        have HFI := Hid.mk hfir
        have HAL := Hid.mk hall
        have HTK := Hid.mk htk
        clear cc hfir hall htk hby hby2 hbx hB2
        unfold frameC at ha HO2 HB2
        unfold frameV at ha
        by_cases hE : frE f = 0
        · have hba : bitsA f = .tuple #[.string ⟨(bitsL f).toArray⟩, .int .i64 0] := by unfold bitsA; rw [if_pos hE]
          rw [hba] at ha
          have HA := Hid.mk ha
          have HE := Hid.mk hE
          generalize ByteArray.mk (bitsL f).toArray = X at *
          clear ha hE hba
          go_wp2_with fail
          refine HA.out.mono ?_
          rintro e w1 ⟨rfl, hb1⟩
          have HO1 := Hid.mk (ownsRow_below HO2.out hb1)
          have HB1 := Hid.mk (bl2 HB2.out hb1)
          clear hb1 HO2 HB2 HO HB HA
          go_wp2_with (at_builtin; refine wpList_append_own _ rfl (.tmp 26) (.tmp 28) 37 rfl w.heap.size 9 i0 (.string ⟨#[]⟩) 1 16 Tryz.underlying37 hi hz0 hz1 hz2 rfl (by decide) _ _ _ rfl (HO1.out.alloc _) ⟨w1.heap.size, 0, none⟩ 1 1 [Value.string X] rfl rfl (by intro q u hq; match q, hq with | 0, hq => (simp at hq; subst hq; simp [Addr.add])) (by intro u hu; simp at hu; subst hu; rfl) (by unfold maxLen; omega) (by omega) (by have := HB1.out.size; simp; omega) ?_; intro v3 w3 hown3 hgrow3 _)
          have hB3 : Below w.heap.size w w3 := Below.grown (HB1.out.alloc HB1.out.size _) hgrow3 (by have := HB1.out.size; simp; omega) (fun q hq => (HO1.out.lt q hq).1)
          rw [← HTK.out] at hown3
          clear hgrow3
          go_roundw
          case rel => exact ⟨k + 1, by omega, by go_num, Hid.mk hown3, Hid.mk (HAL.out HE.out), Hid.mk hB3⟩
          case measure => simp [intOf]; omega
        · have hba : bitsA f = .tuple #[.string ⟨#[]⟩, .int .i64 (frE f)] := by unfold bitsA; rw [if_neg hE]
          rw [hba] at ha
          have HA := Hid.mk ha
          have HE := Hid.mk (HFI.out hE)
          have HN := Hid.mk hE
          have hne : (frE f != 0) = true := by simpa using hE
          clear ha hE hba
          generalize frE f = ce at *
          go_wp2_with fail
          refine HA.out.mono ?_
          rintro e w1 ⟨rfl, hb1⟩
          have HB1 := Hid.mk (bl2 HB2.out hb1)
          clear hb1 HO2 HB2 HO HB HA
          go_wp2_with fail
          go_ret2
          exact ⟨fun _ => by rw [HE.out]; rfl, fun h => absurd (HE.out.symm.trans h) HN.out, HB1.out⟩
    · have e : k = n := by omega
      subst e
      have hz := HZ.out
      rw [List.take_of_length_le (by have := HF.out.len; omega)] at hz
      have hfz : firE (l.map (·.f)) = 0 := (firE_zero _).2 (fun f hf => by
        obtain ⟨v, hv, rfl⟩ := List.mem_map.1 hf
        exact hz v hv)
      have hown := HO.out
      rw [List.take_of_length_le (by have := HF.out.len; omega)] at hown
      have HOW := Hid.mk hown
      have HFZ := Hid.mk hfz
      clear hown hfz hz
      go_wp2_with fail
      go_ret2
      exact ⟨fun h => absurd HFZ.out h, fun _ => ⟨_, rfl, HOW.out⟩, HB.out⟩
end Bw
end Go.Proofs.YthdhhmflfdbkhaaGreatDoor

/- An append to one row beside another one: the row keeps its block, or moves into a new one; of no program. -/
namespace Go.Proofs.YthdhhmflfdbkhaaGreatDoor
open Go.RowKit
namespace Bw
theorem run_append_two {P : Program} (w : World) (base : Nat) (t ty e : TypeId) (i : TypeInfo) (z : Value) (size bytes : Nat) (ht : P.underlying t = some (.slice e)) (hi : P.info? e = some i) (hz : i.zero = some z)
    (hsize : i.size = size) (hby : i.bytes = bytes) (hzs : z.cells.size = size) (hsz : 0 < size)
    (v : Value) (n : Nat) (xs : List Value) (hown : w.ownsRow base e size v n xs)
    (a : Addr) (m c : Nat) (news : List Value) (hl : news.length = m * size) (hnews : ∀ j u, news[j]? = some u → w.cell? (a.add j) = some u) (h1 : ∀ u ∈ news, u.oneCell' = true)
    (h0 : 0 < m) (h63 : n + m ≤ maxLen) (hbytes : (n + m) * bytes ≤ 140737488355328) (hbase : base ≤ w.heap.size) :
    ∃ v' w', (Builtin.append_ #[t, t] ty #[v, .slice (some a) m c]).run P w = .ok v' w' ∧ w'.ownsRow base e size v' (n + m) (xs ++ news) ∧ w.grownBy w' v.ownBlock ∧ (v'.ownBlock = v.ownBlock ∨ v'.ownBlock = some w.heap.size) := by
  obtain ⟨v', w', hr, h2, h3, -⟩ := run_append_own (P := P) w base t ty e i z size bytes ht hi hz hsize hby hzs hsz v n xs hown a m c news hl hnews h1 h63 hbytes hbase
  refine ⟨v', w', hr, h2, h3, ?_⟩
  subst hsize
  subst hby
  have hsmall : n + m ≤ 9223372036854775807 := by simp only [maxLen] at h63; omega
  rcases hown.2 with ⟨rfl, rfl⟩ | ⟨g, cap, cur, rfl, hbg, hg, hnc, hcm, hcs, htake⟩
  · have hq := run_append_nil (P := P) w t ty e i z ht hi hz a m c news hl hnews h0 (by omega) (by have hb := hbytes; simp only [Nat.zero_add] at hb; omega)
    rw [hq] at hr
    injection hr with e1 e2
    right; rw [← e1]; rfl
  · by_cases hroom : n + m ≤ cap
    · have hfit : n * i.size + news.length ≤ cur.size := by rw [hl, hcs, ← Nat.add_mul]; exact Nat.mul_le_mul_right _ hroom
      have hq := run_append_room (P := P) w t ty e i ht hi g n cap cur hg a m c news hl hnews h1 hroom hfit
      rw [hq] at hr
      injection hr with e1 e2
      left; rw [← e1]; rfl
    · have holds : ∀ j u, xs[j]? = some u → w.cell? ((⟨g, 0, none⟩ : Addr).add j) = some u := hown.cells (g := g) rfl
      have hq := run_append_grow (P := P) w t ty e i z ht hi hz ⟨g, 0, none⟩ n cap xs hown.1 holds a m c news hl hnews (by omega) (by omega) (growslice_fits (by omega) hbytes)
      rw [hq] at hr
      injection hr with e1 e2
      right; rw [← e1]; rfl
theorem wpList_append_two {P : Program} {w : World} {ops : Array Oper} {rest : List Oper} {o : Oper} {a : Act} {Q : Exit → Act → World → Prop} (hgd : o.guard = none) (s x : Operand) (t : TypeId)
    (ho : o.op = .call { callee := .builtin .append, args := #[s, x], argTypes := #[t, t] })
    (base : Nat) (e : TypeId) (i : TypeInfo) (z : Value) (size bytes : Nat) (ht : P.underlying t = some (.slice e)) (hi : P.info? e = some i) (hz : i.zero = some z)
    (hsize : i.size = size) (hby : i.bytes = bytes) (hzs : z.cells.size = size) (hsz : 0 < size)
    (v : Value) (n : Nat) (xs : List Value) (hs : a.eval s = v) (hown : w.ownsRow base e size v n xs)
    (ad : Addr) (m c : Nat) (news : List Value) (hx : a.eval x = .slice (some ad) m c) (hl : news.length = m * size) (hnews : ∀ j u, news[j]? = some u → w.cell? (ad.add j) = some u) (h1 : ∀ u ∈ news, u.oneCell' = true)
    (h0 : 0 < m) (h63 : n + m ≤ maxLen) (hbytes : (n + m) * bytes ≤ 140737488355328) (hbase : base ≤ w.heap.size)
    (h : ∀ v' w', w'.ownsRow base e size v' (n + m) (xs ++ news) → w.grownBy w' v.ownBlock → (v'.ownBlock = v.ownBlock ∨ v'.ownBlock = some w.heap.size) → wpList P ops Q rest (a.put o.dst v') w') : wpList P ops Q (o :: rest) a w := by
  refine wpList_plain hgd fun K hK => ?_
  obtain ⟨v', w', hr, h2, h3, h4⟩ := run_append_two (P := P) w base t o.type e i z size bytes ht hi hz hsize hby hzs hsz v n xs hown ad m c news hl hnews h1 h0 h63 hbytes hbase
  unfold Oper.wp
  simp [execOp, ho, resolve, invoke, builtin, hs, hx, hr, Result.andThen]
  exact hK _ _ (h v' w' h2 h3 h4)
/-- another row stays as it was -/
theorem owns_beside {w w' : World} {base : Nat} {e : TypeId} {size : Nat} {v : Value} {n : Nat} {xs : List Value} {row : Option Nat} (h : w.ownsRow base e size v n xs) (hg : w.grownBy w' row) (hne : ∀ k, v.ownBlock = some k → some k ≠ row) : w'.ownsRow base e size v n xs := by
  obtain ⟨h1, h2⟩ := h
  refine ⟨h1, ?_⟩
  rcases h2 with h2 | ⟨g, cap, cur, hv, hgb, hh, r⟩
  · exact Or.inl h2
  · subst hv
    refine Or.inr ⟨g, cap, cur, rfl, hgb, ?_, r⟩
    rw [hg.block g (lt_of_block hh) (hne g rfl)]
    exact hh
/-- two rows lie apart -/
def ApartV (v u : Value) : Prop := ∀ k, v.ownBlock = some k → u.ownBlock ≠ some k
theorem ApartV.symm {v u : Value} (h : ApartV v u) : ApartV u v := fun k hk hv => h k hv hk
theorem apart_next {w : World} {base : Nat} {e : TypeId} {size : Nat} {v v' u : Value} {n : Nat} {xs : List Value} (h : ApartV v u) (hu : w.ownsRow base e size u n xs) (hb : v'.ownBlock = v.ownBlock ∨ v'.ownBlock = some w.heap.size) : ApartV v' u := by
  intro k hk hx
  rcases hb with hb | hb
  · exact h k (by rw [← hb]; exact hk) hx
  · rw [hb] at hk
    have := (World.ownsRow.lt hu k hx).2
    simp at hk
    omega
end Bw
end Go.Proofs.YthdhhmflfdbkhaaGreatDoor

/- Who sends a 0 and who a 1 at a place: wire.senders. -/
namespace Go.Proofs.YthdhhmflfdbkhaaGreatDoor
open Go.ChangeShapes Go.WideShapes Go.ChangeAt Go.RowKit
namespace Bw
open Bm

theorem info_int : (Tryz.prog.info? 3).map (fun i => (i.zero, i.size, i.bytes)) = some (some (.int .i64 0), 1, 8) := by kernel_rfl
/-- numbers as cells -/
def intC (l : List Int) : List Value := l.map fun n => .int .i64 n
theorem intC_append (a b : List Int) : intC (a ++ b) = intC a ++ intC b := by simp [intC]
theorem intC_length (l : List Int) : (intC l).length = l.length := by simp [intC]
theorem zerK_yes {rows : List (List UInt8)} {lost : List Int} {n k : Nat} (h1 : sends rows lost n k = true) (h2 : isZ rows n k = true) : zerK rows lost n (k + 1) = zerK rows lost n k ++ [(k : Int)] ∧ oneK rows lost n (k + 1) = oneK rows lost n k := by
  rw [zerK, oneK, h1, h2]; exact ⟨rfl, rfl⟩
theorem oneK_yes {rows : List (List UInt8)} {lost : List Int} {n k : Nat} (h1 : sends rows lost n k = true) (h2 : isZ rows n k = false) : oneK rows lost n (k + 1) = oneK rows lost n k ++ [(k : Int)] ∧ zerK rows lost n (k + 1) = zerK rows lost n k := by
  rw [zerK, oneK, h1, h2]; exact ⟨rfl, rfl⟩
theorem sends_no {rows : List (List UInt8)} {lost : List Int} {n k : Nat} (h1 : sends rows lost n k = false) : zerK rows lost n (k + 1) = zerK rows lost n k ∧ oneK rows lost n (k + 1) = oneK rows lost n k := by
  rw [zerK, oneK, h1]; exact ⟨rfl, rfl⟩

set_option maxHeartbeats 4000000 in
set_option maxRecDepth 100000 in
theorem senders_any (gr cr gl cl n at_ : Nat) (rows : List (List UInt8)) (lost : List Int) (w : World) (hr : rows.length = n) (hl : lost.length = n) (hn : n ≤ 6) (hlen : ∀ r ∈ rows, r.length ≤ 1000) (hX : StrsAt w gr 0 rows) (hY : NumsAt w gl 0 lost) :
    Calls Tryz.prog 76 #[.slice (some ⟨gr, 0, none⟩) n cr, .slice (some ⟨gl, 0, none⟩) n cl, .int .i64 at_] w fun e w' => ∃ zv ov, e = .returned (.tuple #[zv, ov]) ∧
      w'.ownsRow w.heap.size 3 1 zv (zerK rows lost at_ n).length (intC (zerK rows lost at_ n)) ∧ w'.ownsRow w.heap.size 3 1 ov (oneK rows lost at_ n).length (intC (oneK rows lost at_ n)) ∧ Below w.heap.size w w' := by
  obtain ⟨i0, hi, hz0, hz1, hz2⟩ := info_parts info_int
  have HX := Hid.mk hX
  have HY := Hid.mk hY
  have HR := Hid.mk hr
  have HL := Hid.mk hl
  have HLN := Hid.mk hlen
  clear hX hY hr hl hlen
  go_enter Tryz.func76, Tryz.ntmps76
  go_wp2_with fail
  go_loopw [6, 7, 11] (fun z o i wr => ∃ k : Nat, k ≤ n ∧ i = .int .i64 k ∧ Hid (wr.ownsRow w.heap.size 3 1 z (zerK rows lost at_ k).length (intC (zerK rows lost at_ k))) ∧ Hid (wr.ownsRow w.heap.size 3 1 o (oneK rows lost at_ k).length (intC (oneK rows lost at_ k))) ∧ Hid (ApartV z o) ∧ Hid (Below w.heap.size w wr)) (fun _ _ i _ => n - (intOf i).toNat)
  case atStart => exact ⟨0, Nat.zero_le _, rfl, Hid.mk (by simpa [zerK, intC] using World.ownsRow_nil _ _ _ _), Hid.mk (by simpa [oneK, intC] using World.ownsRow_nil _ _ _ _), Hid.mk (fun k hk => by cases hk), Hid.mk (Below.refl _ _)⟩
  case round =>
    obtain ⟨k, hk, rfl, HZ, HO, HA, HB⟩ := hrel
    by_cases hlt : k < n
    · have hlt' : (k : Int) < (n : Int) := by omega
      have c1 := cell_kept HB.out (HY.out k (by rw [HL.out]; exact hlt))
      have c2 := cell_kept HB.out (HX.out k (by rw [HR.out]; exact hlt))
      simp only [Nat.zero_add] at c1 c2
      obtain ⟨R, hR⟩ : ∃ R : ByteArray, R = ⟨(rows.getD k []).toArray⟩ := ⟨_, rfl⟩
      have hRl : R.data.toList = rows.getD k [] := by rw [hR]
      have hRs : R.size = (rows.getD k []).length := ba_size hRl
      have hR1000 : R.size ≤ 1000 := by rw [hRs]; exact HLN.out _ (row_mem rows k (by rw [HR.out]; exact hlt))
      rw [← hR] at c2
      obtain ⟨x, hx⟩ : ∃ x, x = lost.getD k 0 := ⟨_, rfl⟩
      rw [← hx] at c1
      have HRl := Hid.mk hRl
      have HRs := Hid.mk hRs
      have HXx := Hid.mk hx
      clear hR hRl hRs hx
      by_cases h1 : x = -1
      · by_cases h2 : at_ < R.size
        · have hs : sends rows lost at_ k = true := by
            unfold sends
            rw [← HXx.out, h1, ← HRs.out]
            simpa using h2
          have hat2 := at_getD R at_ h2
          rw [HRl.out] at hat2
          have hb1 : (x != -1) = false := by rw [h1]; rfl
          by_cases h3 : (rows.getD k []).getD at_ 0 = 48
          · have hzz : isZ rows at_ k = true := by unfold isZ; rw [h3]; rfl
            have hb2 : ((R[at_].toNat : Int) == 48) = true := by rw [hat2, h3]; rfl
            have HS := Hid.mk (zerK_yes hs hzz)
            have hsz := zerK_len rows lost at_ k
            clear h3 hzz hs hat2 h1
            go_wp2_with (at_builtin; refine wpList_append_two rfl (.tmp 41) (.tmp 43) 34 rfl w.heap.size 3 i0 (.int .i64 0) 1 8 Tryz.underlying34 hi hz0 hz1 hz2 rfl (by decide) _ _ _ rfl (HZ.out.alloc _) ⟨wr.heap.size, 0, none⟩ 1 1 [Value.int .i64 k] rfl rfl (by intro q u hq; match q, hq with | 0, hq => (simp at hq; subst hq; simp [Addr.add])) (by intro u hu; simp at hu; subst hu; rfl) (by decide) (by unfold maxLen; omega) (by omega) (by have := HB.out.size; simp; omega) ?_; intro v1 w3 hown1 hgrow1 hblk1)
            have hB3 : Below w.heap.size w w3 := Below.grown (HB.out.alloc HB.out.size _) hgrow1 (by have := HB.out.size; simp; omega) (fun q hq => (HZ.out.lt q hq).1)
            have hoth := owns_beside (HO.out.alloc _) hgrow1 (fun q hq e => HA.out q e.symm hq)
            have hown2 := hown1
            rw [show intC (zerK rows lost at_ k) ++ [Value.int .i64 k] = intC (zerK rows lost at_ (k + 1)) by rw [HS.out.1, intC_append]; rfl, show (zerK rows lost at_ k).length + 1 = (zerK rows lost at_ (k + 1)).length by rw [HS.out.1]; simp] at hown2
            rw [← HS.out.2] at hoth
            have HAp := Hid.mk (apart_next (v := u6) HA.out (HO.out.alloc _) hblk1)
            clear hown1 hgrow1 hblk1
            go_roundw
            case rel => exact ⟨k + 1, by omega, by go_num, Hid.mk hown2, Hid.mk hoth, HAp, Hid.mk hB3⟩
            case measure => simp [intOf]; omega
          · have hzz : isZ rows at_ k = false := by unfold isZ; simpa using h3
            have hb2 : ((R[at_].toNat : Int) == 48) = false := by
              rw [hat2, beq_eq_false_iff_ne]
              intro hx
              apply h3
              have h48 : ((rows.getD k []).getD at_ 0).toNat = 48 := by omega
              exact UInt8.toNat_inj.1 h48
            have HS := Hid.mk (oneK_yes hs hzz)
            have hsz := oneK_len rows lost at_ k
            clear h3 hzz hs hat2 h1
            go_wp2_with (at_builtin; refine wpList_append_two rfl (.tmp 14) (.tmp 16) 34 rfl w.heap.size 3 i0 (.int .i64 0) 1 8 Tryz.underlying34 hi hz0 hz1 hz2 rfl (by decide) _ _ _ rfl (HO.out.alloc _) ⟨wr.heap.size, 0, none⟩ 1 1 [Value.int .i64 k] rfl rfl (by intro q u hq; match q, hq with | 0, hq => (simp at hq; subst hq; simp [Addr.add])) (by intro u hu; simp at hu; subst hu; rfl) (by decide) (by unfold maxLen; omega) (by omega) (by have := HB.out.size; simp; omega) ?_; intro v1 w3 hown1 hgrow1 hblk1)
            have hB3 : Below w.heap.size w w3 := Below.grown (HB.out.alloc HB.out.size _) hgrow1 (by have := HB.out.size; simp; omega) (fun q hq => (HO.out.lt q hq).1)
            have hoth := owns_beside (HZ.out.alloc _) hgrow1 (fun q hq e => HA.out.symm q e.symm hq)
            have hown2 := hown1
            rw [show intC (oneK rows lost at_ k) ++ [Value.int .i64 k] = intC (oneK rows lost at_ (k + 1)) by rw [HS.out.1, intC_append]; rfl, show (oneK rows lost at_ k).length + 1 = (oneK rows lost at_ (k + 1)).length by rw [HS.out.1]; simp] at hown2
            rw [← HS.out.2] at hoth
            have HAp := Hid.mk ((apart_next (v := u7) HA.out.symm (HZ.out.alloc _) hblk1).symm)
            clear hown1 hgrow1 hblk1
            go_roundw
            case rel => exact ⟨k + 1, by omega, by go_num, Hid.mk hoth, Hid.mk hown2, HAp, Hid.mk hB3⟩
            case measure => simp [intOf]; omega
        · have hs : sends rows lost at_ k = false := by
            unfold sends
            rw [← HRs.out]
            simp
            intro _
            omega
          have HS := Hid.mk (sends_no hs)
          have hb1 : (x != -1) = false := by rw [h1]; rfl
          have h2' : (R.size : Int) ≤ (at_ : Int) := by omega
          clear hs h1
          go_wp2_with fail
          go_roundw
          case rel => exact ⟨k + 1, by omega, by go_num, by rw [HS.out.1]; exact HZ, by rw [HS.out.2]; exact HO, HA, HB⟩
          case measure => simp [intOf]; omega
      · have hs : sends rows lost at_ k = false := by
          unfold sends
          rw [← HXx.out]
          simp
          intro h; exact absurd h h1
        have HS := Hid.mk (sends_no hs)
        have hb1 : (x != -1) = true := by simpa using h1
        clear hs h1
        go_wp2_with fail
        go_roundw
        case rel => exact ⟨k + 1, by omega, by go_num, by rw [HS.out.1]; exact HZ, by rw [HS.out.2]; exact HO, HA, HB⟩
        case measure => simp [intOf]; omega
    · have e : k = n := by omega
      subst e
      go_wp2_with fail
      go_ret2
      exact ⟨_, _, rfl, HZ.out, HO.out, HB.out⟩
end Bw
end Go.Proofs.YthdhhmflfdbkhaaGreatDoor

/- The least of several texts: plain facts on lists; of no program. -/
namespace Go.Proofs.YthdhhmflfdbkhaaGreatDoor
namespace Bw
open Bm
theorem less_irr : ∀ a : List UInt8, Op.bytesLess a a = false
  | [] => rfl
  | x :: a => by simp [Op.bytesLess, less_irr a]
theorem less_tot : ∀ a b : List UInt8, Op.bytesLess a b = false → Op.bytesLess b a = false → a = b
  | [], [], _, _ => rfl
  | [], y :: b, h, _ => by simp [Op.bytesLess] at h
  | x :: a, [], _, h => by simp [Op.bytesLess] at h
  | x :: a, y :: b, h1, h2 => by
    by_cases h : x = y
    · subst h
      simp [Op.bytesLess] at h1 h2
      rw [less_tot a b h1 h2]
    · have h' : ¬ y = x := fun e => h e.symm
      simp [Op.bytesLess, h] at h1
      simp [Op.bytesLess, h'] at h2
      exact absurd (UInt8.le_antisymm h2 h1) h
theorem less_tr : ∀ a b c : List UInt8, Op.bytesLess a b = true → Op.bytesLess b c = true → Op.bytesLess a c = true
  | _, [], [], h, _ => by
    rename_i a; cases a <;> simp [Op.bytesLess] at h
  | [], _, z :: c, _, _ => by simp [Op.bytesLess]
  | a, y :: b, [], _, h => by simp [Op.bytesLess] at h
  | x :: a, [], _, h, _ => by simp [Op.bytesLess] at h
  | x :: a, y :: b, z :: c, h1, h2 => by
    by_cases h : x = y
    · subst h
      by_cases h' : x = z
      · subst h'
        simp [Op.bytesLess] at h1 h2 ⊢
        exact less_tr a b c h1 h2
      · simp [Op.bytesLess, h'] at h2 ⊢
        exact h2
    · simp [Op.bytesLess, h] at h1
      by_cases h' : y = z
      · subst h'
        simp [Op.bytesLess, h]
        exact h1
      · simp [Op.bytesLess, h'] at h2
        have h3 := UInt8.lt_trans h1 h2
        have h4 : ¬ x = z := fun e => by rw [e] at h3; exact absurd h3 (UInt8.lt_irrefl _)
        simp [Op.bytesLess, h4]
        exact h3
theorem less_ne {a b : List UInt8} (h : Op.bytesLess a b = true) : a ≠ b := fun e => by rw [e, less_irr] at h; cases h
theorem less_not {a b : List UInt8} (h : Op.bytesLess a b = true) : Op.bytesLess b a = false := by
  rcases Bool.eq_false_or_eq_true (Op.bytesLess b a) with h' | h'
  · have := less_tr a b a h h'
    rw [less_irr] at this; cases this
  · exact h'
/-- the lesser of two texts, the first one if they are alike -/
def minB (m x : List UInt8) : List UInt8 := if Op.bytesLess x m = true then x else m
def minJ (l : List (List UInt8)) : Nat → List UInt8
  | 0 => l.getD 0 []
  | i + 1 => minB (minJ l i) (l.getD (i + 1) [])
theorem minB_or (m x : List UInt8) : minB m x = x ∨ minB m x = m := by unfold minB; split; exact .inl rfl; exact .inr rfl
theorem minB_le (m x : List UInt8) : Op.bytesLess x (minB m x) = false ∧ Op.bytesLess m (minB m x) = false := by
  unfold minB
  split
  · rename_i h
    refine ⟨less_irr x, ?_⟩
    rcases Bool.eq_false_or_eq_true (Op.bytesLess m x) with h' | h'
    · have := less_tr x m x h h'
      rw [less_irr] at this; cases this
    · exact h'
  · rename_i h
    exact ⟨by simpa using h, less_irr m⟩
theorem less_le {a b c : List UInt8} (h1 : Op.bytesLess a b = false) (h2 : Op.bytesLess b c = false) : Op.bytesLess a c = false := by
  rcases Bool.eq_false_or_eq_true (Op.bytesLess a c) with h | h
  · rcases Bool.eq_false_or_eq_true (Op.bytesLess b a) with h3 | h3
    · have := less_tr b a c h3 h
      rw [h2] at this; cases this
    · have e := less_tot a b h1 h3
      rw [e, h2] at h; cases h
  · exact h
theorem minJ_least (l : List (List UInt8)) : ∀ i, i < l.length → minJ l i ∈ l.take (i + 1) ∧ ∀ k, k ≤ i → Op.bytesLess (l.getD k []) (minJ l i) = false
  | 0, h => by
    refine ⟨?_, fun k hk => ?_⟩
    · show l.getD 0 [] ∈ _
      have : l.getD 0 [] = l[0] := by simp [List.getD, h]
      rw [this]
      exact List.mem_take_iff_getElem.2 ⟨0, by omega, rfl⟩
    · have : k = 0 := by omega
      subst this; exact less_irr _
  | i + 1, h => by
    obtain ⟨h1, h2⟩ := minJ_least l i (by omega)
    obtain ⟨m1, m2⟩ := minB_le (minJ l i) (l.getD (i + 1) [])
    refine ⟨?_, fun k hk => ?_⟩
    · rcases minB_or (minJ l i) (l.getD (i + 1) []) with e | e
      · rw [minJ, e]
        have : l.getD (i + 1) [] = l[i + 1] := by simp [List.getD, h]
        rw [this]
        exact List.mem_take_iff_getElem.2 ⟨i + 1, by omega, rfl⟩
      · rw [minJ, e]
        obtain ⟨j, hj, hx⟩ := List.mem_take_iff_getElem.1 h1
        exact List.mem_take_iff_getElem.2 ⟨j, by omega, hx⟩
    · rcases Nat.lt_or_ge i k with hx | hx
      · have : k = i + 1 := by omega
        subst this; exact m1
      · exact less_le (h2 k hx) m2
def minL (l : List (List UInt8)) : List UInt8 := minJ l (l.length - 1)
theorem minL_least (l : List (List UInt8)) (h : l ≠ []) : Least l (minL l) := by
  have hl : 0 < l.length := List.length_pos_iff.2 h
  obtain ⟨h1, h2⟩ := minJ_least l (l.length - 1) (by omega)
  refine ⟨List.mem_of_mem_take h1, fun r hr => ?_⟩
  obtain ⟨k, hk, rfl⟩ := List.getElem_of_mem hr
  have := h2 k (by omega)
  rw [show l.getD k [] = l[k] by simp [List.getD, hk]] at this
  exact this
/-- the least is one alone -/
theorem least_one_only {l : List (List UInt8)} {a b : List UInt8} (ha : Least l a) (hb : Least l b) : a = b := less_tot a b (hb.2 a ha.1) (ha.2 b hb.1)
end Bw
end Go.Proofs.YthdhhmflfdbkhaaGreatDoor

/- What is on the bus, and who gives way where: wire.contest. -/
namespace Go.Proofs.YthdhhmflfdbkhaaGreatDoor
open Go.ChangeShapes Go.WideShapes Go.ChangeAt Go.RowKit
namespace Bw
open Bm

theorem owns_slice {w : World} {base : Nat} {e : TypeId} {size : Nat} {v : Value} {n : Nat} {xs : List Value} (h : w.ownsRow base e size v n xs) : ∃ a cap, v = .slice a n cap := by
  rcases h.2 with ⟨rfl, rfl⟩ | ⟨g, cap, cur, rfl, -⟩
  · exact ⟨_, _, rfl⟩
  · exact ⟨_, _, rfl⟩
theorem owns_some {w : World} {base : Nat} {e : TypeId} {size : Nat} {v : Value} {n : Nat} {xs : List Value} (h : w.ownsRow base e size v n xs) (h0 : 0 < n) : ∃ g cap, v = .slice (some ⟨g, 0, none⟩) n cap ∧ base ≤ g ∧ g < w.heap.size := by
  rcases h.2 with ⟨rfl, rfl⟩ | ⟨g, cap, cur, rfl, hb, hg, -⟩
  · omega
  · exact ⟨_, _, rfl, hb, lt_of_block hg⟩
theorem nums_of {w : World} {base g n cap : Nat} {l : List Int} (h : w.ownsRow base 3 1 (.slice (some ⟨g, 0, none⟩) n cap) n (intC l)) : NumsAt w g 0 l := by
  intro i hi
  have hl : (intC l).length = n * 1 := h.1
  rw [intC_length] at hl
  rw [Nat.zero_add, h.cellAt i (by omega)]
  simp [intC, List.getD, hi]
theorem intC_set (l : List Int) (i : Nat) (x : Int) : (intC l).set i (.int .i64 x) = intC (l.set i x) := by
  unfold intC; rw [List.map_set]
/-- so many set to -1 -/
def fillK (n k : Nat) : List Int := List.replicate k (-1) ++ List.replicate (n - k) 0
theorem fillK_len (n k : Nat) (h : k ≤ n) : (fillK n k).length = n := by simp [fillK]; omega
theorem fillK_set (n k : Nat) (h : k < n) : (fillK n k).set k (-1) = fillK n (k + 1) := by
  unfold fillK
  rw [List.set_append_right _ _ (by simp)]
  simp only [List.length_replicate, Nat.sub_self]
  obtain ⟨m, hm⟩ : ∃ m, n - k = m + 1 := ⟨n - k - 1, by omega⟩
  rw [hm, show n - (k + 1) = m by omega, List.replicate_succ, List.set_cons_zero, List.replicate_succ', List.append_assoc]
  rfl

set_option maxHeartbeats 8000000 in
set_option maxRecDepth 100000 in
theorem contest_any (gr cr n : Nat) (rows : List (List UInt8)) (best : List UInt8) (w : World) (hr : rows.length = n) (h1 : 1 ≤ n) (hn : n ≤ 6) (hlen : ∀ r ∈ rows, r.length ≤ 900) (hrow : ∀ r ∈ rows, rowB r = true) (hA : Apart rows) (hL : Least rows best) (hX : StrsAt w gr 0 rows) :
    Calls Tryz.prog 41 #[.slice (some ⟨gr, 0, none⟩) n cr] w fun e w' => e = .returned (.tuple #[.string ⟨best.toArray⟩, .slice (some ⟨w.heap.size, 0, none⟩) n n]) ∧
      w'.ownsRow w.heap.size 3 1 (.slice (some ⟨w.heap.size, 0, none⟩) n n) n (intC (rows.map fun r => dif r best)) ∧ Below w.heap.size w w' := by
  obtain ⟨i0, hi, hz0, hz1, hz2⟩ := info_parts info_int
  obtain ⟨j0, hj0, hy0, hy1, hy2⟩ := info_parts info_u8
  have HS := Hid.mk (fun W (lost : List Int) (at_ : Nat) (hl : lost.length = n) (hW : StrsAt W gr 0 rows) (hY : NumsAt W w.heap.size 0 lost) => senders_any gr cr w.heap.size n n at_ rows lost W hr hl hn (fun r hr => Nat.le_trans (hlen r hr) (by omega)) hW hY)
  have HX := Hid.mk hX
  have HR := Hid.mk hr
  have HLN := Hid.mk hlen
  have HRW := Hid.mk hrow
  have HAp := Hid.mk hA
  have HL := Hid.mk hL
  have hbl : best.length ≤ 900 := hlen best hL.1
  clear hX hr hlen hrow hA hL
  go_enter Tryz.func41, Tryz.ntmps41
  go_wp2_with (at_make; refine wpList_make_full _ rfl (.tmp 13) (.tmp 13) 34 rfl w.heap.size 3 i0 (.int .i64 0) 1 Tryz.underlying34 hi hz0 hz1 .i64 .i64 _ _ n rfl rfl (by omega) (by omega) (by rw [hz2]; omega) (by unfold maxLen; omega) (Nat.le_refl _) ?_; intro w2 hown hgrow)
  have hown0 : w2.ownsRow w.heap.size 3 1 (.slice (some ⟨w.heap.size, 0, none⟩) n n) n (intC (fillK n 0)) := by
    have e : intC (fillK n 0) = (madeCells (Value.int .i64 0).cells (n * 1)).toList := by
      rw [Nat.mul_one]
      show intC (fillK n 0) = (madeCells #[.int .i64 0] n).toList
      rw [toList_madeCells_one]
      simp [fillK, intC]
    rw [e]; exact hown
  have hb2 : Below w.heap.size w w2 := Below.grown (Below.refl _ _) hgrow (Nat.le_refl _) (fun q hq => by cases hq)
  clear hown hgrow
  go_loopw [17] (fun i wr => ∃ k : Nat, k ≤ n ∧ i = .int .i64 k ∧ wr.ownsRow w.heap.size 3 1 (.slice (some ⟨w.heap.size, 0, none⟩) n n) n (intC (fillK n k)) ∧ Below w.heap.size w wr) (fun i _ => n - (intOf i).toNat)
  case atStart => exact ⟨0, Nat.zero_le _, rfl, hown0, hb2⟩
  case round =>
    clear hown0 hb2
    obtain ⟨k, hk, rfl, hown, hbel⟩ := hrel
    by_cases hlt : k < n
    · have hlt' : (k : Int) < (n : Int) := by omega
      have hc3 := hown.cellAt k (by omega)
      have hf3 := hown.frozenAt k
      rw [show (intC (fillK n k))[k]? = some ((intC (fillK n k))[k]'(by rw [intC_length, fillK_len n k hk]; exact hlt)) from List.getElem?_eq_getElem _] at hc3
      generalize (intC (fillK n k))[k]'(by rw [intC_length, fillK_len n k hk]; exact hlt) = c3 at hc3
      have hst := hown.stored k (.int .i64 (-1))
      rw [intC_set, fillK_set n k hlt] at hst
      have HO4 := Hid.mk hst.1
      have HB4 := Hid.mk (hbel.grown hst.2 hbel.size (fun q hq => by cases hq; exact Nat.le_refl _))
      clear hown hst
      go_wp2_with fail
      go_roundw
      case rel => exact ⟨k + 1, by omega, by go_num, HO4.out, HB4.out⟩
      case measure => simp [intOf]; omega
    · have e : k = n := by omega
      subst e
      rw [show fillK k k = lostL rows best 0 by rw [lost_start, HR.out]; simp [fillK]] at hown
      have HL0 := Hid.mk hown
      have HB0 := Hid.mk hbel
      clear hown hbel
      go_wp2_with fail
      go_loopw [6, 24] (fun r i wr => ∃ j : Nat, j ≤ best.length ∧ i = .int .i64 j ∧ Hid (wr.ownsRow w.heap.size 5 1 r j (cellsOf (best.take j))) ∧ Hid (wr.ownsRow w.heap.size 3 1 (.slice (some ⟨w.heap.size, 0, none⟩) k k) k (intC (lostL rows best j))) ∧ Hid (ApartV r (.slice (some ⟨w.heap.size, 0, none⟩) k k)) ∧ Hid (Below w.heap.size w wr)) (fun _ i _ => 1000 - (intOf i).toNat)
      case atStart => exact ⟨0, Nat.zero_le _, rfl, Hid.mk (by simpa [cellsOf] using World.ownsRow_nil _ _ _ _), HL0, Hid.mk (fun q hq => by cases hq), HB0⟩
      case round =>
        obtain ⟨j, hj, rfl, HBus, HLo, HAp2, HBel⟩ := hrel
        have hj1000 : (j : Int) < 1000 := by omega
        have hc0 := HS.out wr (lostL rows best j) j (by rw [lostL_len, HR.out]) (fun i hi => cell_kept HBel.out (HX.out i hi)) (nums_of HLo.out)
        by_cases hlt : j < best.length
        · have hbt : best.getD j 0 = 49 ∨ best.getD j 0 = 48 := by
            have hb : bit (best.getD j 0) = true := by
              rw [List.getD, List.getElem?_eq_getElem hlt, Option.getD_some]
              exact List.all_eq_true.1 (HRW.out best HL.out.1) _ (List.getElem_mem hlt)
            rcases (bit_iff _).1 hb with h | h
            · right; exact UInt8.toNat_inj.1 (show (best.getD j 0).toNat = 48 by omega)
            · left; exact UInt8.toNat_inj.1 (show (best.getD j 0).toNat = 49 by omega)
          rcases hbt with hbt | hbt
          · have HBit := Hid.mk hbt
            obtain ⟨g1, g2, g3⟩ := one_step HAp.out HRW.out HL.out hlt hbt
            rw [HR.out] at g1 g2
            rw [g1] at hc0
            have ho1 : 0 < (oneK rows (lostL rows best j) j k).length := List.length_pos_iff.2 g2
            have ho2 := oneK_len rows (lostL rows best j) j k
            have HC := Hid.mk hc0
            have HG3 := Hid.mk g3
            generalize oneK rows (lostL rows best j) j k = ones at *
            clear hc0 g1 g2 g3 hbt
            go_wp2_with fail
            refine HC.out.mono ?_
            rintro e w1 ⟨zv, ov, rfl, hz, ho, hb1⟩
            obtain ⟨az, cz, rfl⟩ := owns_slice hz
            obtain ⟨ao, co, rfl⟩ := owns_slice ho
            have HBus1 := Hid.mk (ownsRow_below HBus.out hb1)
            have HLo1 := Hid.mk (ownsRow_below HLo.out hb1)
            have HBel1 := Hid.mk (bl2 HBel.out hb1)
            generalize ones.length = lo at *
            have hq : ((lo : Int) == 0) = false := by rw [beq_eq_false_iff_ne]; omega
            clear hz ho hb1 HBus HLo HBel HC
            go_wp2_with (at_builtin; refine wpList_append_two rfl (.tmp 43) (.tmp 44) 22 rfl w.heap.size 5 j0 (.int .u8 0) 1 1 Tryz.underlying22 hj0 hy0 hy1 hy2 rfl (by decide) _ _ _ rfl (HBus1.out.alloc _) ⟨w1.heap.size, 0, none⟩ 1 1 [Value.int .u8 49] rfl rfl (by intro q u hq; match q, hq with | 0, hq => (simp at hq; subst hq; simp [Addr.add])) (by intro u hu; simp at hu; subst hu; rfl) (by decide) (by unfold maxLen; omega) (by omega) (by have := HBel1.out.size; simp; omega) ?_; intro v3 w3 hown3 hgrow3 hblk3)
            have hB3 : Below w.heap.size w w3 := Below.grown (HBel1.out.alloc HBel1.out.size _) hgrow3 (by have := HBel1.out.size; simp; omega) (fun q hq => (HBus1.out.lt q hq).1)
            have hL3 := owns_beside (HLo1.out.alloc _) hgrow3 (fun q hq e => HAp2.out q e.symm hq)
            have hA3 := apart_next (v := u6) HAp2.out (HLo1.out.alloc _) hblk3
            rw [show cellsOf (best.take j) ++ [Value.int .u8 49] = cellsOf (best.take (j + 1)) by rw [take_snocL best j hlt, cellsOf_append, HBit.out]; rfl] at hown3
            rw [← HG3.out] at hL3
            clear hgrow3 hblk3
            go_roundw
            case rel => exact ⟨j + 1, by omega, by go_num, Hid.mk hown3, Hid.mk hL3, Hid.mk hA3, Hid.mk hB3⟩
            case measure => simp [intOf]; omega
          · have HBit := Hid.mk hbt
            obtain ⟨g1, g2⟩ := zero_step HAp.out HL.out.1 hlt hbt
            rw [HR.out] at g1 g2
            have hz1 : 0 < (zerK rows (lostL rows best j) j k).length := List.length_pos_iff.2 g1
            have hz3 := zerK_len rows (lostL rows best j) j k
            have ho2 := oneK_len rows (lostL rows best j) j k
            have hin : ∀ x ∈ oneK rows (lostL rows best j) j k, ∃ i : Nat, i < k ∧ x = i := by
              intro x hx
              obtain ⟨i, h1, h2, _⟩ := (oneK_mem rows _ _ x k).1 hx
              exact ⟨i, h1, h2⟩
            have HC := Hid.mk hc0
            have HG2 := Hid.mk g2
            have HIN := Hid.mk hin
            generalize oneK rows (lostL rows best j) j k = ones at *
            generalize (zerK rows (lostL rows best j) j k).length = lz at *
            clear hc0 g1 g2 hbt hin
            go_wp2_with fail
            refine HC.out.mono ?_
            rintro e w1 ⟨zv, ov, rfl, hz, ho, hb1⟩
            obtain ⟨az, cz, rfl⟩ := owns_slice hz
            obtain ⟨ao, co, rfl⟩ := owns_slice ho
            have HBus1 := Hid.mk (ownsRow_below HBus.out hb1)
            have HLo1 := Hid.mk (ownsRow_below HLo.out hb1)
            have HBel1 := Hid.mk (bl2 HBel.out hb1)
            have HOn := Hid.mk ho
            have HGL := Hid.mk (show w.heap.size < wr.heap.size from (HLo.out.lt w.heap.size rfl).2)
            have HBL := Hid.mk (fun q hq => (HBus.out.lt q hq).2)
            obtain ⟨B0, hB0⟩ : ∃ B0 : Nat, B0 = wr.heap.size := ⟨_, rfl⟩
            rw [← hB0] at HOn HGL HBL
            clear hB0
            obtain ⟨lo, hlo⟩ : ∃ lo, lo = ones.length := ⟨_, rfl⟩
            rw [← hlo] at HOn ho2 HG2 ⊢
            have HLO := Hid.mk hlo
            have hq : (((lz : Int) + (lo : Int)) == 0) = false := by rw [beq_eq_false_iff_ne]; omega
            have hq2 : ((lz : Int) == 0) = false := by rw [beq_eq_false_iff_ne]; omega
            clear hlo hz ho hb1 HBus HLo HBel HC
            go_wp2_with (at_builtin; refine wpList_append_two rfl (.tmp 46) (.tmp 47) 22 rfl w.heap.size 5 j0 (.int .u8 0) 1 1 Tryz.underlying22 hj0 hy0 hy1 hy2 rfl (by decide) _ _ _ rfl (HBus1.out.alloc _) ⟨w1.heap.size, 0, none⟩ 1 1 [Value.int .u8 48] rfl rfl (by intro q u hq; match q, hq with | 0, hq => (simp at hq; subst hq; simp [Addr.add])) (by intro u hu; simp at hu; subst hu; rfl) (by decide) (by unfold maxLen; omega) (by omega) (by have := HBel1.out.size; simp; omega) ?_; intro v3 w3 hown3 hgrow3 hblk3)
            have hB3 : Below w.heap.size w w3 := Below.grown (HBel1.out.alloc HBel1.out.size _) hgrow3 (by have := HBel1.out.size; simp; omega) (fun q hq => (HBus1.out.lt q hq).1)
            have hL3 := owns_beside (HLo1.out.alloc _) hgrow3 (fun q hq e => HAp2.out q e.symm hq)
            have hA3 := apart_next (v := u6) HAp2.out (HLo1.out.alloc _) hblk3
            rw [show cellsOf (best.take j) ++ [Value.int .u8 48] = cellsOf (best.take (j + 1)) by rw [take_snocL best j hlt, cellsOf_append, HBit.out]; rfl] at hown3
            have HOn3 := Hid.mk (owns_beside (HOn.out.alloc _) hgrow3 (fun q hq e => by
              have h1 := HBL.out q e.symm
              have h2 := (HOn.out.lt q hq).1
              omega))
            have HB3 := Hid.mk hB3
            have HL3 := Hid.mk hL3
            have HA3 := Hid.mk hA3
            have HU3 := Hid.mk hown3
            clear hgrow3 hblk3 hB3 hL3 hA3 hown3 HOn HLo1 HBus1 HBel1
            go_loopw [51] (fun i wr3 => ∃ q : Nat, q ≤ lo ∧ i = .int .i64 q ∧ Hid (wr3.ownsRow w.heap.size 3 1 (.slice (some ⟨w.heap.size, 0, none⟩) k k) k (intC (giveK (lostL rows best j) j ones q))) ∧ Hid (wr3.ownsRow w.heap.size 5 1 v3 (j + 1) (cellsOf (best.take (j + 1)))) ∧ Hid (wr3.ownsRow B0 3 1 (.slice ao lo co) lo (intC ones)) ∧ Hid (Below w.heap.size w wr3)) (fun i _ => lo - (intOf i).toNat)
            case atStart => exact ⟨0, Nat.zero_le _, rfl, HL3, HU3, HOn3, HB3⟩
            case round =>
              clear HL3 HU3 HOn3 HB3
              obtain ⟨q, hqk, rfl, HLq, HUq, HOq, HBq⟩ := hrel
              by_cases hqlt : q < lo
              · obtain ⟨go, cgo, heq, hgo1, hgo2⟩ := owns_some HOq.out (by omega)
                simp only [Value.slice.injEq] at heq
                obtain ⟨rfl, -, rfl⟩ := heq
                have hqlt' : (q : Int) < (lo : Int) := by omega
                have hql : q < ones.length := by rw [← HLO.out]; exact hqlt
                obtain ⟨i, hik, hix⟩ := HIN.out ones[q] (List.getElem_mem hql)
                have c1 : wr.cell? ⟨go, q, none⟩ = some (.int .i64 i) := by
                  rw [HOq.out.cellAt q (by omega)]
                  simp [intC, hql, hix]
                have hLl : (intC (giveK (lostL rows best j) j ones q)).length = k := by rw [intC_length, giveK_len, lostL_len, HR.out]
                have hc3 := HLq.out.cellAt i (by omega)
                have hf3 := HLq.out.frozenAt i
                rw [List.getElem?_eq_getElem (by rw [hLl]; exact hik)] at hc3
                generalize (intC (giveK (lostL rows best j) j ones q))[i]'(by rw [hLl]; exact hik) = c3 at hc3
                have hst := HLq.out.stored i (.int .i64 (j : Int))
                rw [intC_set] at hst
                have hgs : (giveK (lostL rows best j) j ones q).set i (j : Int) = giveK (lostL rows best j) j ones (q + 1) := by
                  rw [giveK, show ones.getD q 0 = ones[q] by simp [List.getD, hql], hix, Int.toNat_natCast]
                rw [hgs] at hst
                have HLn := Hid.mk hst.1
                have HBn := Hid.mk (HBq.out.grown hst.2 HBq.out.size (fun q hq => by cases hq; exact Nat.le_refl _))
                have HUn := Hid.mk (owns_beside HUq.out hst.2 (fun x hx e => by
                  have e2 : x = w.heap.size := by simpa using e
                  subst e2
                  exact HA3.out _ hx rfl))
                have HOn := Hid.mk (owns_beside HOq.out hst.2 (fun x hx e => by
                  have e2 : x = w.heap.size := by simpa using e
                  have h1 := (HOq.out.lt x hx).1
                  have h2 := HGL.out
                  omega))
                have hik' : (i : Int) < (k : Int) := by omega
                clear hst hgs hLl hix hql HLq HUq HOq HBq hgo1 hgo2
                go_wp2_with fail
                go_roundw
                case rel => exact ⟨q + 1, by omega, by go_num, HLn, HUn, HOn, HBn⟩
                case measure => simp [intOf]; omega
              · have e : q = lo := by omega
                subst e
                have hLe := HLq.out
                rw [HG2.out] at hLe
                have HLe := Hid.mk hLe
                clear hLe
                go_wp2_with fail
                go_roundw
                case rel => exact ⟨j + 1, by omega, by go_num, HUq, HLe, HA3, HBq⟩
                case measure => simp [intOf]; omega
        · have e2 : j = best.length := by omega
          subst e2
          obtain ⟨g1, g2⟩ := none_left HAp.out HL.out.1
          rw [HR.out] at g1 g2
          rw [g1, g2] at hc0
          have HC := Hid.mk hc0
          clear hc0 g1 g2
          go_wp2_with fail
          refine HC.out.mono ?_
          rintro e w1 ⟨zv, ov, rfl, hz, ho, hb1⟩
          obtain ⟨az, cz, rfl⟩ := owns_slice hz
          obtain ⟨ao, co, rfl⟩ := owns_slice ho
          have HBus1 := Hid.mk (ownsRow_below HBus.out hb1)
          have HLo1 := Hid.mk (ownsRow_below HLo.out hb1)
          have HBel1 := Hid.mk (bl2 HBel.out hb1)
          have hcv := convert_own HBus1.out
          rw [List.take_length] at hcv
          have hfin := HLo1.out
          rw [lost_end] at hfin
          have HFin := Hid.mk hfin
          clear hfin hz ho hb1 HBus HLo HBel HC HBus1 HLo1
          go_wp2_with fail
          go_ret2
          exact ⟨rfl, HFin.out, HBel1.out⟩
end Bw
end Go.Proofs.YthdhhmflfdbkhaaGreatDoor

/- Where something stands in a list, if it stands there once: wire.only of numbers. -/
namespace Go.Proofs.YthdhhmflfdbkhaaGreatDoor
open Go.ChangeShapes Go.WideShapes Go.ChangeAt Go.RowKit
namespace Bw
open Bm

theorem sizeOfI (W : World) : (sizeOf 3).run Tryz.prog W = .ok 1 W := by
  have h : (Tryz.prog.info? 3).map (·.size) = some 1 := by kernel_rfl
  cases hi : Tryz.prog.info? 3 with
  | none => rw [hi] at h; cases h
  | some i =>
    rw [hi] at h
    have h1 : i.size = 1 := by simpa using h
    simp [sizeOf, typeInfo, hi, h1]
theorem sliceI (g n c l : Nat) (xs : List Int) (w : World) (hn : xs.length = n) (hl : l ≤ n) (hnc : n ≤ c) (hx : NumsAt w g 0 xs) :
    ∃ off, (∀ W, (Instr.slice 34 (.slice (some ⟨g, 0, none⟩) n c) (some (.int .i64 (l : Int))) none none).run Tryz.prog W = .ok (.slice (some ⟨g, off, none⟩) (n - l) (c - l)) W) ∧ NumsAt w g off (xs.drop l) := by
  have key : ∀ W, (Instr.slice 34 (.slice (some ⟨g, 0, none⟩) n c) (some (.int .i64 (l : Int))) none none).run Tryz.prog W = .ok (.slice (some ⟨g, if c = l then 0 else l, none⟩) (n - l) (c - l)) W := by
    intro W
    rw [run_slice_l W 34 (some ⟨g, 0, none⟩) n c (by kernel_rfl) .i64 (l : Int) (by omega) (by omega)]
    have e : Tryz.prog.elem 34 = 3 := by kernel_rfl
    rw [e, sizeOfI W]
    simp only [Result.andThen_ok, sliced, Int.toNat_natCast, Nat.mul_one, Option.map_some]
    by_cases h : c = l
    · rw [if_pos h, if_pos h]
    · rw [if_neg h, if_neg h]; simp [Addr.add]; exact fun h => h.symm
  refine ⟨_, key, ?_⟩
  intro i hi
  rw [List.length_drop] at hi
  by_cases h : c = l
  · omega
  · rw [if_neg h]
    have := hx (l + i) (by omega)
    rw [Nat.zero_add] at this
    rw [this]
    simp [List.getD]
set_option maxHeartbeats 2000000 in
set_option maxRecDepth 100000 in
theorem onlyI_any (g n c : Nat) (xs : List Int) (v : Int) (w : World) (hn : xs.length = n) (hm : n ≤ 6) (hnc : n ≤ c) (hx : NumsAt w g 0 xs) :
    Calls Tryz.prog 42 #[.slice (some ⟨g, 0, none⟩) n c, .int .i64 v] w fun e w' => e = .returned (.tuple #[.int .i64 (onlyN xs v), .int .i64 (onlyE xs v)]) ∧ w' = w := by
  have HI := Hid.mk (indexN g 0 n c xs v w hn (by omega) hx)
  have hge := idxG_ge xs v
  rw [hn] at hge
  by_cases h0 : idxG xs v < 0
  · have e1 : onlyE xs v = 8 := by unfold onlyE; rw [if_pos h0]
    have e2 : onlyN xs v = 0 := by unfold onlyN; rw [e1]; rfl
    rw [e1, e2]
    generalize idxG xs v = q at *
    clear e1 e2 hx hn hge
    go_enter Tryz.func42, Tryz.ntmps42
    go_wp2_with fail
    refine HI.out.mono ?_
    rintro e w1 ⟨rfl, hw⟩
    subst hw
    go_wp2_with fail
    go_ret2
    exact ⟨rfl, rfl⟩
  · obtain ⟨l, hl⟩ : ∃ l : Nat, idxG xs v = l := ⟨(idxG xs v).toNat, by omega⟩
    obtain ⟨off, hsl, hx2⟩ := sliceI g n c (l + 1) xs w hn (by omega) hnc hx
    have hc := containsN g off (n - (l + 1)) (c - (l + 1)) (xs.drop (l + 1)) v w (by rw [List.length_drop, hn]) (by omega) hx2
    have e1 : onlyE xs v = if v ∈ xs.drop (l + 1) then 9 else 0 := by
      unfold onlyE
      rw [if_neg h0, hl, Int.toNat_natCast]
      try (by_cases h : v ∈ xs.drop (l + 1) <;> simp [h])
    have e2 : onlyN xs v = if v ∈ xs.drop (l + 1) then 0 else (l : Int) := by
      unfold onlyN
      rw [e1, hl]
      by_cases h : v ∈ xs.drop (l + 1)
      · rw [if_pos h, if_pos h, if_neg (by omega)]
      · rw [if_neg h, if_neg h, if_pos rfl]
    rw [hl] at HI hge
    rw [e1, e2]
    have hsl' : ∀ W, (Instr.slice 34 (.slice (some ⟨g, 0, none⟩) n c) (some (.int .i64 ((l : Int) + 1))) none none).run Tryz.prog W = .ok (.slice (some ⟨g, off, none⟩) (n - (l + 1)) (c - (l + 1))) W := by
      intro W
      have := hsl W
      rw [show ((l + 1 : Nat) : Int) = (l : Int) + 1 by omega] at this
      exact this
    generalize n - (l + 1) = n2 at *
    generalize c - (l + 1) = c2 at *
    clear hsl hl h0 hx hx2 e1 e2
    by_cases h : v ∈ xs.drop (l + 1)
    · rw [if_pos h, if_pos h]
      have hd : decide (v ∈ xs.drop (l + 1)) = true := by simpa using h
      rw [hd] at hc
      have HC := Hid.mk hc
      clear hc h hd hn
      go_enter Tryz.func42, Tryz.ntmps42
      go_wp2_with fail
      refine HI.out.mono ?_
      rintro e w1 ⟨rfl, hw⟩
      subst hw
      go_wp2_with fail
      refine HC.out.mono ?_
      rintro e w2 ⟨rfl, hw2⟩
      subst hw2
      go_wp2_with fail
      go_ret2
      exact ⟨rfl, rfl⟩
    · rw [if_neg h, if_neg h]
      have hd : decide (v ∈ xs.drop (l + 1)) = false := by simpa using h
      rw [hd] at hc
      have HC := Hid.mk hc
      clear hc h hd hn
      go_enter Tryz.func42, Tryz.ntmps42
      go_wp2_with fail
      refine HI.out.mono ?_
      rintro e w1 ⟨rfl, hw⟩
      subst hw
      go_wp2_with fail
      refine HC.out.mono ?_
      rintro e w2 ⟨rfl, hw2⟩
      subst hw2
      go_wp2_with fail
      go_ret2
      exact ⟨rfl, rfl⟩
end Bw
end Go.Proofs.YthdhhmflfdbkhaaGreatDoor

/- No frame's bits begin with another one's, so of several frames' bits none does; plain facts on lists; of no program. -/
namespace Go.Proofs.YthdhhmflfdbkhaaGreatDoor
namespace Bw
open Bm Cm
theorem bits_begins (f g : Fr) (hf : frE f = 0) (hg : frE g = 0) (h : bitsL f <+: bitsL g) : f = g := by
  obtain ⟨rest, hr⟩ := h
  have h1 := (read_back g onesL [] hg (.inl rfl)).2.2
  have h2 := (read_back f onesL rest hf (.inl rfl)).2.2
  rw [List.append_nil, ← bitsL_pre, ← hr, bitsL_pre, List.append_assoc] at h1
  rw [h2] at h1
  exact h1
theorem rows_apart (fs : List Fr) (h : ∀ f ∈ fs, frE f = 0) : Apart (fs.map bitsL) := by
  intro a ha b hb hab
  obtain ⟨f, hf, rfl⟩ := List.mem_map.1 ha
  obtain ⟨g, hg, rfl⟩ := List.mem_map.1 hb
  rw [bits_begins f g (h f hf) (h g hg) hab]
end Bw
end Go.Proofs.YthdhhmflfdbkhaaGreatDoor

/- What wire.Send answers of any frames. -/
namespace Go.Proofs.YthdhhmflfdbkhaaGreatDoor
open Go.ChangeShapes Go.WideShapes Go.ChangeAt Go.RowKit
namespace Bw
open Bm Cm
/-- the bits of frames; the least of them; where each of them parts from it -/
def rowsL (l : List FrV) : List (List UInt8) := l.map fun v => bitsL v.f
def bestL (l : List FrV) : List UInt8 := minL (rowsL l)
def difsL (l : List FrV) : List Int := (rowsL l).map fun r => dif r (bestL l)
/-- the error that Send tells -/
def sendE (l : List FrV) : Int := if 6 < l.length then 2 else if l.length = 0 then 8 else if firE (l.map (·.f)) ≠ 0 then firE (l.map (·.f)) else onlyE (difsL l) (-1)
theorem results_four (f : Func) (tmps : Array Value) (P : Program) (w : World) (a b c d : Nat) (h : f.results = #[.tmp a, .tmp b, .tmp c, .tmp d]) :
    (results f tmps).run P w = .ok (.tuple #[tmps.getD a undef, tmps.getD b undef, tmps.getD c undef, tmps.getD d undef]) w := by
  simp [results, h]
theorem rows_facts (l : List FrV) (hz : firE (l.map (·.f)) = 0) (hl : l.length ≠ 0) : (∀ r ∈ rowsL l, r.length ≤ 900) ∧ (∀ r ∈ rowsL l, rowB r = true) ∧ Apart (rowsL l) ∧ Least (rowsL l) (bestL l) := by
  have hz' := (firE_zero _).1 hz
  have hall : ∀ v ∈ l, frE v.f = 0 := fun v hv => hz' v.f (List.mem_map.2 ⟨v, hv, rfl⟩)
  refine ⟨fun r hr => ?_, fun r hr => ?_, ?_, ?_⟩
  · obtain ⟨v, hv, rfl⟩ := List.mem_map.1 hr
    have h1 := bitsL_len v.f
    have h2 := preL_len v.f (hall v hv)
    omega
  · obtain ⟨v, hv, rfl⟩ := List.mem_map.1 hr
    exact bitsL_row v.f
  · have := rows_apart (l.map (·.f)) (fun f hf => hz' f hf)
    rw [List.map_map] at this
    exact this
  · refine minL_least (rowsL l) (fun h => hl ?_)
    have := congrArg List.length h
    simpa [rowsL] using this
set_option maxHeartbeats 2000000 in
theorem send_many (a : Option Addr) (n cap : Nat) (w : World) (h : 6 < n) :
    Calls Tryz.prog 12 #[.slice a n cap] w fun e w' => e = .returned (.tuple #[.string ⟨#[]⟩, .int .i64 0, .slice none 0 0, .int .i64 2]) ∧ w' = w := by
  have h2 : (6 : Int) < (n : Int) := by omega
  go_enter Tryz.func12, Tryz.ntmps12
  go_wp2_with fail
  refine bodyPost_ret (results_four _ _ _ _ 2 3 4 5 rfl) rfl ?_
  exact ⟨rfl, rfl⟩
set_option maxHeartbeats 2000000 in
theorem send_none (a : Option Addr) (n cap : Nat) (w : World) (h : n = 0) :
    Calls Tryz.prog 12 #[.slice a n cap] w fun e w' => e = .returned (.tuple #[.string ⟨#[]⟩, .int .i64 0, .slice none 0 0, .int .i64 8]) ∧ w' = w := by
  subst h
  go_enter Tryz.func12, Tryz.ntmps12
  go_wp2_with fail
  refine bodyPost_ret (results_four _ _ _ _ 2 3 4 5 rfl) rfl ?_
  exact ⟨rfl, rfl⟩
set_option maxHeartbeats 2000000 in
theorem send_bad (a : Option Addr) (n cap : Nat) (l : List FrV) (w : World) (hS : SizesAt w) (hR : RulesAt w) (hF : IsFrames w a n cap l) (h0 : 0 < n) (h6 : n ≤ 6) (hz : firE (l.map (·.f)) ≠ 0) :
    Calls Tryz.prog 12 #[.slice a n cap] w fun e w' => e = .returned (.tuple #[.string ⟨#[]⟩, .int .i64 0, .slice none 0 0, .int .i64 (firE (l.map (·.f)))]) ∧ Below w.heap.size w w' := by
  have ha := (eachBits_any a n cap l w hS hR hF h6).mono (fun _ _ h => And.intro (h.1 hz) h.2.2)
  have HE := Hid.mk ha
  have hne : (firE (l.map (·.f)) != 0) = true := by simpa using hz
  have h0' : ((n : Int) == 0) = false := by rw [beq_eq_false_iff_ne]; omega
  have h6' : (n : Int) ≤ 6 := by omega
  generalize firE (l.map (·.f)) = ce at *
  clear ha hS hR hF hz
  go_enter Tryz.func12, Tryz.ntmps12
  go_wp2_with fail
  refine HE.out.mono ?_
  rintro e w1 ⟨rfl, hb1⟩
  go_wp2_with fail
  refine bodyPost_ret (results_four _ _ _ _ 2 3 4 5 rfl) rfl ?_
  exact ⟨rfl, hb1⟩
theorem owns_lower {w : World} {b1 b2 : Nat} {e : TypeId} {size : Nat} {v : Value} {n : Nat} {xs : List Value} (h : w.ownsRow b1 e size v n xs) (hb : b2 ≤ b1) : w.ownsRow b2 e size v n xs := by
  obtain ⟨h1, h2⟩ := h
  refine ⟨h1, ?_⟩
  rcases h2 with h2 | ⟨g, cap, cur, hv, hg, r⟩
  · exact Or.inl h2
  · exact Or.inr ⟨g, cap, cur, hv, Nat.le_trans hb hg, r⟩
set_option maxHeartbeats 4000000 in
theorem send_twice (a : Option Addr) (n cap : Nat) (l : List FrV) (w : World) (hS : SizesAt w) (hR : RulesAt w) (hF : IsFrames w a n cap l) (h0 : 0 < n) (h6 : n ≤ 6) (hz : firE (l.map (·.f)) = 0) (hO : onlyE (difsL l) (-1) ≠ 0) :
    Calls Tryz.prog 12 #[.slice a n cap] w fun e w' => e = .returned (.tuple #[.string ⟨#[]⟩, .int .i64 0, .slice none 0 0, .int .i64 (onlyE (difsL l) (-1))]) ∧ Below w.heap.size w w' := by
  obtain ⟨hlen, hrow, hA, hL⟩ := rows_facts l hz (by rw [hF.len]; omega)
  have hrl : (rowsL l).length = n := by rw [rowsL, List.length_map, hF.len]
  have hdl : (difsL l).length = n := by rw [difsL, List.length_map, hrl]
  have ha := (eachBits_any a n cap l w hS hR hF h6).mono (fun _ _ h => And.intro (h.2.1 hz) h.2.2)
  have hc := fun gr cr W hX => contest_any gr cr n (rowsL l) (bestL l) W hrl (by omega) h6 hlen hrow hA hL hX
  have ho := fun g W hX => onlyI_any g n n (difsL l) (-1) W hdl h6 (Nat.le_refl _) hX
  have hN : onlyN (difsL l) (-1) = 0 := by unfold onlyN; rw [if_neg hO]
  have HRO := Hid.mk (show strC (l.map fun v => bitsL v.f) = strC (rowsL l) from rfl)
  have HDI := Hid.mk (show intC ((rowsL l).map fun r => dif r (bestL l)) = intC (difsL l) from rfl)
  rw [hN] at ho
  have hne : (onlyE (difsL l) (-1) != 0) = true := by simpa using hO
  have h0' : ((n : Int) == 0) = false := by rw [beq_eq_false_iff_ne]; omega
  have h6' : (n : Int) ≤ 6 := by omega
  generalize onlyE (difsL l) (-1) = ce at *
  have HE := Hid.mk ha
  have HC := Hid.mk hc
  have HO := Hid.mk ho
  clear ha hc ho hS hR hF hlen hrow hA hL hrl hdl hN hO hz
  generalize ByteArray.mk (bestL l).toArray = BT at *
  go_enter Tryz.func12, Tryz.ntmps12
  go_wp2_with fail
  refine HE.out.mono ?_
  rintro e w1 ⟨⟨rv, rfl, hown⟩, hb1⟩
  rw [HRO.out] at hown
  obtain ⟨gr, cr, rfl, -, -⟩ := owns_some hown h0
  have HX := Hid.mk (strs_of hown)
  have HB1 := Hid.mk hb1
  clear hown hb1
  go_wp2_with fail
  refine (HC.out _ _ _ HX.out).mono ?_
  rintro e w2 ⟨rfl, hown2, hb2⟩
  rw [HDI.out] at hown2
  have HY := Hid.mk (nums_of hown2)
  have HW2 := Hid.mk hown2
  have HB2 := Hid.mk (bl2 HB1.out hb2)
  have HSZ := Hid.mk HB1.out.size
  clear hown2 hb2
  go_wp2_with fail
  refine (HO.out _ _ HY.out).mono ?_
  rintro e w3 ⟨rfl, hw3⟩
  subst hw3
  go_wp2_with fail
  refine bodyPost_ret (results_four _ _ _ _ 2 3 4 5 rfl) rfl ?_
  exact ⟨rfl, HB2.out⟩
set_option maxHeartbeats 4000000 in
theorem send_ok (a : Option Addr) (n cap : Nat) (l : List FrV) (w : World) (hS : SizesAt w) (hR : RulesAt w) (hF : IsFrames w a n cap l) (h0 : 0 < n) (h6 : n ≤ 6) (hz : firE (l.map (·.f)) = 0) (hO : onlyE (difsL l) (-1) = 0) :
    Calls Tryz.prog 12 #[.slice a n cap] w fun e w' => ∃ g, e = .returned (.tuple #[.string ⟨(bestL l).toArray⟩, .int .i64 (idxG (difsL l) (-1)), .slice (some ⟨g, 0, none⟩) n n, .int .i64 0]) ∧ w'.ownsRow w.heap.size 3 1 (.slice (some ⟨g, 0, none⟩) n n) n (intC (difsL l)) ∧ Below w.heap.size w w' := by
  obtain ⟨hlen, hrow, hA, hL⟩ := rows_facts l hz (by rw [hF.len]; omega)
  have hrl : (rowsL l).length = n := by rw [rowsL, List.length_map, hF.len]
  have hdl : (difsL l).length = n := by rw [difsL, List.length_map, hrl]
  have ha := (eachBits_any a n cap l w hS hR hF h6).mono (fun _ _ h => And.intro (h.2.1 hz) h.2.2)
  have hc := fun gr cr W hX => contest_any gr cr n (rowsL l) (bestL l) W hrl (by omega) h6 hlen hrow hA hL hX
  have ho := fun g W hX => onlyI_any g n n (difsL l) (-1) W hdl h6 (Nat.le_refl _) hX
  have hN : onlyN (difsL l) (-1) = idxG (difsL l) (-1) := by unfold onlyN; rw [if_pos hO]
  have HRO := Hid.mk (show strC (l.map fun v => bitsL v.f) = strC (rowsL l) from rfl)
  have HDI := Hid.mk (show intC ((rowsL l).map fun r => dif r (bestL l)) = intC (difsL l) from rfl)
  rw [hN] at ho
  rw [hO] at ho
  have h0' : ((n : Int) == 0) = false := by rw [beq_eq_false_iff_ne]; omega
  have h6' : (n : Int) ≤ 6 := by omega
  generalize idxG (difsL l) (-1) = ci at *
  have HE := Hid.mk ha
  have HC := Hid.mk hc
  have HO := Hid.mk ho
  clear ha hc ho hS hR hF hlen hrow hA hL hrl hdl hN hO hz
  generalize ByteArray.mk (bestL l).toArray = BT at *
  go_enter Tryz.func12, Tryz.ntmps12
  go_wp2_with fail
  refine HE.out.mono ?_
  rintro e w1 ⟨⟨rv, rfl, hown⟩, hb1⟩
  rw [HRO.out] at hown
  obtain ⟨gr, cr, rfl, -, -⟩ := owns_some hown h0
  have HX := Hid.mk (strs_of hown)
  have HB1 := Hid.mk hb1
  clear hown hb1
  go_wp2_with fail
  refine (HC.out _ _ _ HX.out).mono ?_
  rintro e w2 ⟨rfl, hown2, hb2⟩
  rw [HDI.out] at hown2
  have HY := Hid.mk (nums_of hown2)
  have HW2 := Hid.mk hown2
  have HB2 := Hid.mk (bl2 HB1.out hb2)
  have HSZ := Hid.mk HB1.out.size
  clear hown2 hb2
  go_wp2_with fail
  refine (HO.out _ _ HY.out).mono ?_
  rintro e w3 ⟨rfl, hw3⟩
  subst hw3
  go_wp2_with fail
  refine bodyPost_ret (results_four _ _ _ _ 2 3 4 5 rfl) rfl ?_
  exact ⟨_, rfl, owns_lower HW2.out HSZ.out, HB2.out⟩
/-- Send of any frames -/
theorem send_any (a : Option Addr) (n cap : Nat) (l : List FrV) (w : World) (hS : SizesAt w) (hR : RulesAt w) (hF : IsFrames w a n cap l) :
    Calls Tryz.prog 12 #[.slice a n cap] w fun e w' => (sendE l ≠ 0 → e = .returned (.tuple #[.string ⟨#[]⟩, .int .i64 0, .slice none 0 0, .int .i64 (sendE l)])) ∧
      (sendE l = 0 → ∃ g, e = .returned (.tuple #[.string ⟨(bestL l).toArray⟩, .int .i64 (idxG (difsL l) (-1)), .slice (some ⟨g, 0, none⟩) n n, .int .i64 0]) ∧ w'.ownsRow w.heap.size 3 1 (.slice (some ⟨g, 0, none⟩) n n) n (intC (difsL l))) ∧ Below w.heap.size w w' := by
  have hl := hF.len
  by_cases h6 : 6 < n
  · have e1 : sendE l = 2 := by unfold sendE; rw [if_pos (by omega)]
    rw [e1]
    refine (send_many a n cap w h6).mono ?_
    rintro e w1 ⟨rfl, rfl⟩
    exact ⟨fun _ => rfl, fun h => absurd h (by decide), Below.refl _ _⟩
  · by_cases h0 : n = 0
    · have e1 : sendE l = 8 := by unfold sendE; rw [if_neg (by omega), if_pos (by omega)]
      rw [e1]
      refine (send_none a n cap w h0).mono ?_
      rintro e w1 ⟨rfl, rfl⟩
      exact ⟨fun _ => rfl, fun h => absurd h (by decide), Below.refl _ _⟩
    · by_cases hz : firE (l.map (·.f)) = 0
      · have e1 : sendE l = onlyE (difsL l) (-1) := by unfold sendE; rw [if_neg (by omega), if_neg (by omega), if_neg (fun h => h hz)]
        rw [e1]
        by_cases hO : onlyE (difsL l) (-1) = 0
        · refine (send_ok a n cap l w hS hR hF (by omega) (by omega) hz hO).mono ?_
          rintro e w1 ⟨g, h1, h2, h3⟩
          exact ⟨fun h => absurd hO h, fun _ => ⟨g, h1, h2⟩, h3⟩
        · refine (send_twice a n cap l w hS hR hF (by omega) (by omega) hz hO).mono ?_
          rintro e w1 ⟨h1, h3⟩
          exact ⟨fun _ => h1, fun h => absurd h hO, h3⟩
      · have e1 : sendE l = firE (l.map (·.f)) := by unfold sendE; rw [if_neg (by omega), if_neg (by omega), if_pos hz]
        rw [e1]
        refine (send_bad a n cap l w hS hR hF (by omega) (by omega) hz).mono ?_
        rintro e w1 ⟨h1, h3⟩
        exact ⟨fun _ => h1, fun h => absurd h hz, h3⟩
end Bw
end Go.Proofs.YthdhhmflfdbkhaaGreatDoor

/- What slices.Equal answers of two slices that hold the same numbers: true. -/
namespace Go.Proofs.YthdhhmflfdbkhaaGreatDoor
open Go.ChangeShapes Go.WideShapes Go.ChangeAt Go.RowKit
namespace Bw
open Bm
set_option maxHeartbeats 1000000 in
theorem equalN_true (w : World) (g h n c d : Nat) (xs : List Int) (hx : xs.length = n) (hn : n ≤ 1000) (ha : NumsAt w g 0 xs) (hb : NumsAt w h 0 xs) :
    Calls Tryz.prog 18 #[.slice (some ⟨g, 0, none⟩) n c, .slice (some ⟨h, 0, none⟩) n d] w fun e w' => e = .returned (.bool true) ∧ Below w.heap.size w w' := by
  have HA := Hid.mk ha
  have HB := Hid.mk hb
  have HX := Hid.mk hx
  clear ha hb hx
  go_enter Tryz.func18, Tryz.ntmps18
  go_wp2
  go_loopw [13] (fun i w' => ∃ k : Nat, k ≤ n ∧ i = .int .i64 k ∧ ∃ m, w' = w.drewN m) (fun i _ => n - (intOf i).toNat)
  case atStart => exact ⟨0, Nat.zero_le _, rfl, 0, rfl⟩
  case round =>
    obtain ⟨k, hk, rfl, m, rfl⟩ := hrel
    by_cases hlt : k < n
    · have g1 := HA.out k (by rw [HX.out]; exact hlt)
      have g2 := HB.out k (by rw [HX.out]; exact hlt)
      simp only [Nat.zero_add] at g1 g2
      generalize xs.getD k 0 = y at *
      have hlt' : (k : Int) < (n : Int) := by omega
      go_wp2
      go_quiet (fail)
      go_wp2
      go_roundw
      case rel => exact ⟨k + 1, by omega, by go_num, _, rfl⟩
      case measure => simp [intOf]; omega
    · go_wp2
      go_ret
      exact ⟨rfl, ⟨rfl, rfl, rfl, Nat.le_refl _, fun _ _ => rfl⟩⟩
end Bw
end Go.Proofs.YthdhhmflfdbkhaaGreatDoor

/- The closed fact that each law of the wire asks for: two frames at a time. -/
namespace Go.Proofs.YthdhhmflfdbkhaaGreatDoor
open Go.ChangeShapes Go.WideShapes Go.ChangeAt Go.RowKit
namespace Bw
open Bm Cm
def w6 : FrV := ⟨⟨6, false, false, false, 0, []⟩, none, 0, 0⟩
def w5 : FrV := ⟨⟨5, false, false, false, 0, []⟩, none, 0, 0⟩
theorem w65_send : sendE [w6, w5] = 0 := by decide +kernel
theorem w65_best : bestL [w6, w5] = bitsL w5.f := by decide +kernel
theorem w65_difs : difsL [w6, w5] = [11, -1] := by decide +kernel
theorem w5_ok : frE w5.f = 0 := by decide +kernel
def w65C : Obj := .cells #[.int .i64 6, .bool false, .bool false, .bool false, .int .i64 0, .slice none 0 0, .int .i64 5, .bool false, .bool false, .bool false, .int .i64 0, .slice none 0 0] 24
theorem w65_frames (w : World) : IsFrames (w.alloc w65C) (some ⟨w.heap.size, 0, none⟩) 2 2 [w6, w5] := by
  refine ⟨rfl, Nat.le_refl _, by unfold maxLen; decide, (fun h => by cases h), ?_, ?_⟩
  · intro x hx i hi k hk
    cases hx
    have e : ∀ j, (Addr.add ⟨w.heap.size, 0, none⟩ j) = ⟨w.heap.size, j, none⟩ := by intro j; simp [Addr.add]; exact fun h => h.symm
    rw [e, cell_of_row _ _ _ _ _ _ (heap_alloc_new w w65C)]
    have hi2 : i < 2 := hi
    match i, hi2, k, hk with
    | 0, _, 0, _ => rfl
    | 0, _, 1, _ => rfl
    | 0, _, 2, _ => rfl
    | 0, _, 3, _ => rfl
    | 0, _, 4, _ => rfl
    | 0, _, 5, _ => rfl
    | 1, _, 0, _ => rfl
    | 1, _, 1, _ => rfl
    | 1, _, 2, _ => rfl
    | 1, _, 3, _ => rfl
    | 1, _, 4, _ => rfl
    | 1, _, 5, _ => rfl
  · intro i hi
    have hi2 : i < 2 := hi
    match i, hi2 with
    | 0, _ => exact ⟨rfl, Nat.le_refl _, Nat.zero_le _, fun _ => rfl, fun x hx => by cases hx⟩
    | 1, _ => exact ⟨rfl, Nat.le_refl _, Nat.zero_le _, fun _ => rfl, fun x hx => by cases hx⟩
def n11C : Obj := .cells #[.int .i64 11, .int .i64 (-1)] 3
theorem n11_nums (w : World) : NumsAt (w.alloc n11C) w.heap.size 0 [11, -1] := by
  intro i hi
  rw [Nat.zero_add, cell_of_row _ _ _ _ _ _ (heap_alloc_new w n11C)]
  have hi2 : i < 2 := hi
  match i, hi2 with
  | 0, _ => rfl
  | 1, _ => rfl
set_option maxHeartbeats 8000000 in
theorem wired_any (w : World) (hS : SizesAt w) (hR : RulesAt w) :
    Calls Tryz.prog 15 #[] w fun e w' => e = .returned (.bool true) ∧ Below w.heap.size w w' := by
  have hB0 : Below w.heap.size w (w.alloc w65C) := (Below.refl _ _).alloc (Nat.le_refl _) _
  have a1 := (send_any (some ⟨w.heap.size, 0, none⟩) 2 2 [w6, w5] _ (hS.kept hB0) (hR.kept hB0) (w65_frames w)).mono (fun _ _ h => And.intro (h.2.1 w65_send) h.2.2)
  rw [w65_best, w65_difs] at a1
  have e1 : idxG ([11, -1] : List Int) (-1) = 1 := by decide
  rw [e1] at a1
  have a2 := fun W h1 h2 => frBits_ok w5.f none 0 0 W h1 h2 ⟨rfl, Nat.le_refl _, Nat.zero_le _, fun _ => rfl, fun x hx => by cases hx⟩ w5_ok
  have a3 := fun W g h h1 h2 => equalN_true W g h 2 2 2 [11, -1] rfl (by decide) h1 h2
  have h11 := fun W => n11_nums W
  have b11 : ∀ W : World, Below W.heap.size W (W.alloc n11C) := fun W => (Below.refl _ _).alloc (Nat.le_refl _) _
  generalize ByteArray.mk (bitsL w5.f).toArray = X at *
  unfold w65C at a1 hB0
  unfold frameV w5 at a2
  unfold n11C at h11 b11
  simp only at a2
  have HA1 := Hid.mk a1
  have HA2 := Hid.mk a2
  have HA3 := Hid.mk a3
  have H11 := Hid.mk h11
  have B11 := Hid.mk b11
  have HB := Hid.mk hB0
  have HS := Hid.mk hS
  have HR := Hid.mk hR
  clear a1 a2 a3 h11 b11 hB0 hS hR e1
  go_enter Tryz.func15, Tryz.ntmps15
  go_wp2_with fail
  refine HA1.out.mono ?_
  rintro e w1 ⟨⟨g, rfl, hown⟩, hb1⟩
  have HB1 := Hid.mk (bl2 HB.out hb1)
  have HO := Hid.mk hown
  clear hown hb1
  go_wp2_with fail
  refine (HA2.out _ (HS.out.kept HB1.out) (HR.out.kept HB1.out)).mono ?_
  rintro e w2 ⟨rfl, hb2⟩
  have HB2 := Hid.mk (bl2 HB1.out hb2)
  have HO2 := Hid.mk (ownsRow_below HO.out hb2)
  clear hb2
  go_wp2_with fail
  refine (HA3.out _ _ _ (nums_of (HO2.out.alloc _)) (H11.out _)).mono ?_
  rintro e w3 ⟨rfl, hb3⟩
  have HB3 := Hid.mk (bl2 (bl2 HB2.out (B11.out _)) hb3)
  clear hb3
  go_wp2_with fail
  go_ret
  exact ⟨rfl, HB3.out⟩
end Bw
end Go.Proofs.YthdhhmflfdbkhaaGreatDoor

/- What the document's own CheckFrame answers of a frame that lies in memory, as a premise. -/
namespace Go.Proofs.YthdhhmflfdbkhaaGreatDoor
open Go.ChangeShapes Go.WideShapes Go.ChangeAt Go.RowKit
namespace Bw
open Bm Cm
def CheckF : Prop := ∀ (id : Int) (lo fa re : Bool) (sz : Int) (a : Option Addr) (len cap : Nat) (w : World), len ≤ 9223372036854775807 →
    Calls Tryz.prog 13 #[frameV id lo fa re sz a len cap] w fun e w' => e = .returned (.int .i64 (frEn id lo fa re sz len)) ∧ Below w.heap.size w w'
theorem CheckF.fr (h : CheckF) (f : Fr) (a : Option Addr) (len cap : Nat) (w : World) (hy : IsBytes w a len cap f.dt) :
    Calls Tryz.prog 13 #[frameV f.id f.lo f.fa f.re f.sz a len cap] w fun e w' => e = .returned (.int .i64 (frE f)) ∧ Below w.heap.size w w' := by
  have h1 : len ≤ maxLen := Nat.le_trans hy.2.1 hy.2.2.1
  have h2 := h f.id f.lo f.fa f.re f.sz a len cap w (by unfold maxLen at h1; omega)
  have e : frEn f.id f.lo f.fa f.re f.sz len = frE f := by unfold frE; rw [hy.1]
  rw [e] at h2
  exact h2
end Bw
end Go.Proofs.YthdhhmflfdbkhaaGreatDoor

/- What slices.Equal answers of two slices that hold the same bytes: true. -/
namespace Go.Proofs.YthdhhmflfdbkhaaGreatDoor
open Go.ChangeShapes Go.WideShapes Go.ChangeAt Go.RowKit
namespace Bw
open Bm

def HasBytes (w : World) (a : Option Addr) (n : Nat) (l : List UInt8) : Prop :=
  (a = none → n = 0) ∧ ∀ x, a = some x → ∀ i, i < n → w.cell? (x.add i) = some (.int .u8 (l.getD i 0).toNat)

set_option maxHeartbeats 1000000 in
theorem equalB_true (w : World) (a b : Option Addr) (n c d : Nat) (l : List UInt8) (hn : n ≤ maxLen) (ha : HasBytes w a n l) (hb : HasBytes w b n l) :
    Calls Tryz.prog 39 #[.slice a n c, .slice b n d] w fun e w' => e = .returned (.bool true) ∧ Below w.heap.size w w' := by
  have HA := Hid.mk ha
  have HB := Hid.mk hb
  unfold maxLen at hn
  clear ha hb
  go_enter Tryz.func39, Tryz.ntmps39
  go_wp2
  go_loopw [13] (fun i w' => ∃ k : Nat, k ≤ n ∧ i = .int .i64 k ∧ ∃ m, w' = w.drewN m) (fun i _ => n - (intOf i).toNat)
  case atStart => exact ⟨0, Nat.zero_le _, rfl, 0, rfl⟩
  case round =>
    obtain ⟨k, hk, rfl, m, rfl⟩ := hrel
    by_cases hlt : k < n
    · cases a with
      | none => exact absurd (HA.out.1 rfl) (by omega)
      | some x =>
        cases b with
        | none => exact absurd (HB.out.1 rfl) (by omega)
        | some y =>
          have g1 := HA.out.2 x rfl k hlt
          have g2 := HB.out.2 y rfl k hlt
          have hlt' : (k : Int) < (n : Int) := by omega
          go_wp2
          go_quiet (fail)
          go_wp2
          go_roundw
          case rel => exact ⟨k + 1, by omega, by go_num, _, rfl⟩
          case measure => simp [intOf]; omega
    · go_wp2
      go_ret
      exact ⟨rfl, ⟨rfl, rfl, rfl, Nat.le_refl _, fun _ _ => rfl⟩⟩
end Bw
end Go.Proofs.YthdhhmflfdbkhaaGreatDoor

/- What the document's own SameFrame answers of frames that are alike. -/
namespace Go.Proofs.YthdhhmflfdbkhaaGreatDoor
open Go.ChangeShapes Go.WideShapes Go.ChangeAt Go.RowKit
namespace Bw
open Bm Cm

set_option maxHeartbeats 8000000 in
theorem sameFrame_true (f : Fr) (a1 a2 : Option Addr) (n1 c1 n2 c2 : Nat) (w : World) (h1 : IsBytes w a1 n1 c1 f.dt) (h2 : IsBytes w a2 n2 c2 f.dt) :
    Calls Tryz.prog 11 #[frameV f.id f.lo f.fa f.re f.sz a1 n1 c1, frameV f.id f.lo f.fa f.re f.sz a2 n2 c2] w fun e w' => e = .returned (.bool true) ∧ Below w.heap.size w w' := by
  obtain ⟨id, lo, fa, re, sz, dt⟩ := f
  simp only at h1 h2 ⊢
  have hB1 := below_box w id lo fa re sz a1 n1 c1
  have hB2 := below_box (w.alloc (frameC id lo fa re sz a1 n1 c1)) id lo fa re sz a2 n2 c2
  have hB := bl2 hB1 hB2
  have hn : n1 = n2 := h1.1.symm.trans h2.1
  subst hn
  have hmx : n1 ≤ maxLen := by have := h1.2.1; have := h1.2.2.1; omega
  have hY1 := isBytes_below h1 hB
  have hY2 := isBytes_below h2 hB
  have hbe := equalB_true _ a1 a2 n1 c1 c2 dt hmx ⟨hY1.2.2.2.1, hY1.2.2.2.2⟩ ⟨hY2.2.2.2.1, hY2.2.2.2.2⟩
  have HBE := Hid.mk hbe
  have HB := Hid.mk hB
  unfold frameC at HBE HB
  unfold frameV
  clear h1 h2 hB1 hB2 hB hbe hY1 hY2 hmx
  go_enter Tryz.func11, Tryz.ntmps11
  go_wp2_with fail
  refine HBE.out.mono ?_
  rintro e w1 ⟨rfl, hb1⟩
  have hbel := bl2 HB.out hb1
  clear hb1
  go_wp2_with fail
  go_ret
  exact ⟨rfl, hbel⟩
end Bw
end Go.Proofs.YthdhhmflfdbkhaaGreatDoor

/- What the laws' noFrame answers of no frame. -/
namespace Go.Proofs.YthdhhmflfdbkhaaGreatDoor
open Go.ChangeShapes Go.WideShapes Go.ChangeAt Go.RowKit
namespace Bw
open Bm Cm
theorem nilBytesN (w : World) : IsBytes w none 0 0 [] := ⟨rfl, Nat.le_refl _, Nat.zero_le _, fun _ => rfl, fun x hx => by cases hx⟩
set_option maxHeartbeats 4000000 in
theorem noFrameN (w : World) :
    Calls Tryz.prog 9 #[.agg #[.int .i64 0, .bool false, .bool false, .bool false, .int .i64 0, .slice none 0 0]] w fun e w' => e = .returned (.bool true) ∧ Below w.heap.size w w' := by
  have a1 := fun W => sameFrame_true ⟨0, false, false, false, 0, []⟩ none none 0 0 0 0 W (nilBytesN W) (nilBytesN W)
  unfold frameV at a1
  simp only at a1
  have HA1 := Hid.mk a1
  clear a1
  go_enter Tryz.func9, Tryz.ntmps9
  go_wp2_with fail
  refine (HA1.out _).mono ?_
  rintro e w1 ⟨rfl, hb1⟩
  go_wp2_with fail
  go_ret
  exact ⟨rfl, bl2 (below_box w 0 false false false 0 none 0 0) hb1⟩
end Bw
end Go.Proofs.YthdhhmflfdbkhaaGreatDoor

/- The law WireNoise: a wrong frame; too many places. -/
namespace Go.Proofs.YthdhhmflfdbkhaaGreatDoor
open Go.ChangeShapes Go.WideShapes Go.ChangeAt Go.RowKit
namespace Bw
open Bm Cm
set_option maxHeartbeats 16000000 in
set_option maxRecDepth 100000 in
theorem wnoise_bad (hCF : CheckF) (f : Fr) (a : Option Addr) (len cap : Nat) (p : Option Addr) (n c : Nat) (w : World) (hS : SizesAt w) (hR : RulesAt w) (hD : w.cell? ⟨5, 1, none⟩ = some (.int .u8 1)) (hby : IsBytes w a len cap f.dt) (hE : frE f ≠ 0) :
    Calls Tryz.prog 5 #[frameV f.id f.lo f.fa f.re f.sz a len cap, .slice p n c] w fun e w' => e = .returned (.bool true) ∧ Below w.heap.size w w' := by
  have hB := below_box w f.id f.lo f.fa f.re f.sz a len cap
  have hK := FrAt.box w f.id f.lo f.fa f.re f.sz a len cap
  have hY := isBytes_below hby hB
  have a1 := noise_bad f a len cap p n c _ (hS.kept hB) (hR.kept hB) hY hE
  have HA1 := Hid.mk a1
  have HA2 := Hid.mk (fun W hW => hCF.fr f a len cap W hW)
  have HA3 := Hid.mk (fun W h1 h2 => wired_any W h1 h2)
  have HA4 := Hid.mk (fun W => noFrameN W)
  have HB0 := Hid.mk hB
  have HK0 := Hid.mk hK
  have HY0 := Hid.mk hY
  have HS := Hid.mk hS
  have HR := Hid.mk hR
  have HD := Hid.mk hD
  unfold frameC at HA1 HB0 HK0 HY0
  unfold frameV at HA1 HA2 ⊢
  clear a1 hB hK hY hS hR hby hD hCF
  have hne : (frE f != 0) = true := by simpa using hE
  have hnq : (frE f == 0) = false := by simpa using hE
  clear hE
  generalize frE f = ce at *
  go_enter Tryz.func5, Tryz.ntmps5
  obtain ⟨m0, m1, m2, m3, m4, m5⟩ := HK0.out
  go_wp2_with fail
  refine HA1.out.mono ?_
  rintro e w1 ⟨rfl, hb1⟩
  have hbx : Below w1.heap.size w1 (w1.alloc (.cells #[.int .i64 0, .bool false, .bool false, .bool false, .int .i64 0, .slice none 0 0] 24)) := (Below.refl _ _).alloc (Nat.le_refl _) _
  have hb12 := bl2 hb1 hbx
  have HG2 := Hid.mk (FrAt.box w1 0 false false false 0 none 0 0)
  unfold frameC at HG2
  have HB2 := Hid.mk (bl2 HB0.out hb12)
  have HK2 := Hid.mk (HK0.out.kept hb12)
  have HY2 := Hid.mk (isBytes_below HY0.out hb12)
  obtain ⟨k0, k1, k2, k3, k4, k5⟩ := HK2.out
  clear hb1 hbx hb12 HB0 HK0 HY0 m0 m1 m2 m3 m4 m5
  go_wp2_with fail
  refine (HA2.out _ HY2.out).mono ?_
  rintro e w3 ⟨rfl, hb3⟩
  have HB3 := Hid.mk (bl2 HB2.out hb3)
  have HG3 := Hid.mk (HG2.out.kept hb3)
  have HK3 := Hid.mk (HK2.out.kept hb3)
  have HY3 := Hid.mk (isBytes_below HY2.out hb3)
  clear hb3 HB2 HG2 HK2 HY2 k0 k1 k2 k3 k4 k5
  go_wp2_with fail
  refine (HA3.out _ (HS.out.kept HB3.out) (HR.out.kept HB3.out)).mono ?_
  rintro e w6 ⟨rfl, hb6⟩
  have HB6 := Hid.mk (bl2 HB3.out hb6)
  have HG6 := Hid.mk (HG3.out.kept hb6)
  clear hb6
  go_wp2_with fail
  refine (HA3.out _ (HS.out.kept HB6.out) (HR.out.kept HB6.out)).mono ?_
  rintro e w7 ⟨rfl, hb7⟩
  have HB7 := Hid.mk (bl2 HB6.out hb7)
  obtain ⟨n0, n1, n2, n3, n4, n5⟩ := HG6.out.kept hb7
  clear hb7
  go_wp2_with fail
  refine (HA4.out _).mono ?_
  rintro e w8 ⟨rfl, hb8⟩
  have HB8 := Hid.mk (bl2 HB7.out hb8)
  clear hb8 n0 n1 n2 n3 n4 n5
  go_wp2_with fail
  go_ret
  exact ⟨rfl, HB8.out⟩
set_option maxHeartbeats 16000000 in
set_option maxRecDepth 100000 in
theorem wnoise_many (hCF : CheckF) (f : Fr) (a : Option Addr) (len cap : Nat) (p : Option Addr) (n c : Nat) (w : World) (hS : SizesAt w) (hR : RulesAt w) (hD : w.cell? ⟨5, 1, none⟩ = some (.int .u8 1)) (hby : IsBytes w a len cap f.dt) (hE : frE f = 0) (hn : 1000 < n) :
    Calls Tryz.prog 5 #[frameV f.id f.lo f.fa f.re f.sz a len cap, .slice p n c] w fun e w' => e = .returned (.bool true) ∧ Below w.heap.size w w' := by
  have hB := below_box w f.id f.lo f.fa f.re f.sz a len cap
  have hK := FrAt.box w f.id f.lo f.fa f.re f.sz a len cap
  have hY := isBytes_below hby hB
  have a1 := noise_many f a len cap p n c _ (hS.kept hB) (hR.kept hB) hY hE hn
  have HA1 := Hid.mk a1
  have HA2 := Hid.mk (fun W hW => hCF.fr f a len cap W hW)
  have HA3 := Hid.mk (fun W h1 h2 => wired_any W h1 h2)
  have HA4 := Hid.mk (fun W => noFrameN W)
  have HB0 := Hid.mk hB
  have HK0 := Hid.mk hK
  have HY0 := Hid.mk hY
  have HS := Hid.mk hS
  have HR := Hid.mk hR
  have HD := Hid.mk hD
  unfold frameC at HA1 HB0 HK0 HY0
  unfold frameV at HA1 HA2 ⊢
  clear a1 hB hK hY hS hR hby hD hCF
  rw [hE] at HA2
  have hn2 : (1000 : Int) < (n : Int) := by omega
  clear hE
  go_enter Tryz.func5, Tryz.ntmps5
  obtain ⟨m0, m1, m2, m3, m4, m5⟩ := HK0.out
  go_wp2_with fail
  refine HA1.out.mono ?_
  rintro e w1 ⟨rfl, hb1⟩
  have hbx : Below w1.heap.size w1 (w1.alloc (.cells #[.int .i64 0, .bool false, .bool false, .bool false, .int .i64 0, .slice none 0 0] 24)) := (Below.refl _ _).alloc (Nat.le_refl _) _
  have hb12 := bl2 hb1 hbx
  have HG2 := Hid.mk (FrAt.box w1 0 false false false 0 none 0 0)
  unfold frameC at HG2
  have HB2 := Hid.mk (bl2 HB0.out hb12)
  have HK2 := Hid.mk (HK0.out.kept hb12)
  have HY2 := Hid.mk (isBytes_below HY0.out hb12)
  obtain ⟨k0, k1, k2, k3, k4, k5⟩ := HK2.out
  clear hb1 hbx hb12 HB0 HK0 HY0 m0 m1 m2 m3 m4 m5
  go_wp2_with fail
  refine (HA2.out _ HY2.out).mono ?_
  rintro e w3 ⟨rfl, hb3⟩
  have HB3 := Hid.mk (bl2 HB2.out hb3)
  have HG3 := Hid.mk (HG2.out.kept hb3)
  have HK3 := Hid.mk (HK2.out.kept hb3)
  have HY3 := Hid.mk (isBytes_below HY2.out hb3)
  clear hb3 HB2 HG2 HK2 HY2 k0 k1 k2 k3 k4 k5
  go_wp2_with fail
  refine (HA3.out _ (HS.out.kept HB3.out) (HR.out.kept HB3.out)).mono ?_
  rintro e w6 ⟨rfl, hb6⟩
  have HB6 := Hid.mk (bl2 HB3.out hb6)
  have HG6 := Hid.mk (HG3.out.kept hb6)
  clear hb6
  go_wp2_with fail
  refine (HA3.out _ (HS.out.kept HB6.out) (HR.out.kept HB6.out)).mono ?_
  rintro e w7 ⟨rfl, hb7⟩
  have HB7 := Hid.mk (bl2 HB6.out hb7)
  obtain ⟨n0, n1, n2, n3, n4, n5⟩ := HG6.out.kept hb7
  clear hb7
  go_wp2_with fail
  refine (HA4.out _).mono ?_
  rintro e w8 ⟨rfl, hb8⟩
  have HB8 := Hid.mk (bl2 HB7.out hb8)
  clear hb8 n0 n1 n2 n3 n4 n5
  go_wp2_with fail
  go_ret
  exact ⟨rfl, HB8.out⟩
end Bw
end Go.Proofs.YthdhhmflfdbkhaaGreatDoor
