/- Who sends a 0 and who a 1 at a place: wire.senders. -/
import Derived.Test.YtfomempleaceiaaDoorC2
import Derived.Test.YtfomempleaceiaaDoorW1
import Derived.Test.YtfomempleaceiaaDoorC14
import Derived.WalkKit
import Derived.OwnWalk
import Derived.OneCell
import Derived.Laws.AppendOwn
namespace Go.Proofs.YtfomempleaceiaaDoor
open Go.ChangeShapes Go.WideShapes Go.ChangeAt Go.RowKit
namespace Bw
open Bm Cm

theorem info_str : (Tryd.prog.info? 9).map (fun i => (i.zero, i.size, i.bytes)) = some (some (.string ⟨#[]⟩), 1, 16) := by kernel_rfl
/-- texts as cells -/
def strC (l : List (List UInt8)) : List Value := l.map fun r => .string ⟨r.toArray⟩
theorem strC_append (a b : List (List UInt8)) : strC (a ++ b) = strC a ++ strC b := by simp [strC]
theorem strC_length (l : List (List UInt8)) : (strC l).length = l.length := by simp [strC]
theorem strs_of {w : World} {base g n cap : Nat} {l : List (List UInt8)} (h : w.ownsRow base 9 1 (.slice (some ⟨g, 0, none⟩) n cap) n (strC l)) : StrsAt w g 0 l := by
  intro i hi
  have hl : (strC l).length = n * 1 := h.1
  rw [strC_length] at hl
  rw [Nat.zero_add, h.cellAt i (by omega)]
  simp [strC, List.getD, hi]
/-- the first error of frames -/
def firE : List Fr → Int
  | [] => 0
  | f :: l => if frE f = 0 then firE l else frE f
theorem firE_at : ∀ (a : List Fr) (f : Fr) (b : List Fr), (∀ g ∈ a, frE g = 0) → frE f ≠ 0 → firE (a ++ f :: b) = frE f
  | [], f, b, _, h => by rw [List.nil_append, firE, if_neg h]
  | g :: a, f, b, ha, h => by rw [List.cons_append, firE, if_pos (ha g List.mem_cons_self), firE_at a f b (fun x hx => ha x (List.mem_cons_of_mem _ hx)) h]
theorem firE_zero : ∀ (l : List Fr), firE l = 0 ↔ ∀ f ∈ l, frE f = 0
  | [] => by simp [firE]
  | f :: l => by
    rw [firE]
    by_cases h : frE f = 0
    · rw [if_pos h, firE_zero l]; simp [h]
    · rw [if_neg h]; simp [h]
theorem firE_take (l : List FrV) (k : Nat) (hk : k < l.length) (h : ∀ v ∈ l.take k, frE v.f = 0) (hE : frE l[k].f ≠ 0) : firE (l.map (·.f)) = frE l[k].f := by
  have e : l = l.take k ++ l[k] :: l.drop (k + 1) := by rw [List.getElem_cons_drop, List.take_append_drop]
  have e2 : l.map (·.f) = (l.take k).map (·.f) ++ l[k].f :: (l.drop (k + 1)).map (·.f) := by
    have := congrArg (List.map (·.f)) e
    rw [List.map_append, List.map_cons] at this
    exact this
  rw [e2]
  refine firE_at _ _ _ (fun g hg => ?_) hE
  obtain ⟨v, hv, rfl⟩ := List.mem_map.1 hg
  exact h v hv
theorem take_all {l : List FrV} {k : Nat} (hk : k < l.length) (h : ∀ v ∈ l.take k, frE v.f = 0) (hE : frE l[k].f = 0) : ∀ v ∈ l.take (k + 1), frE v.f = 0 := by
  intro v hv
  rw [List.take_succ_eq_append_getElem hk, List.mem_append, List.mem_singleton] at hv
  rcases hv with hv | rfl
  · exact h v hv
  · exact hE
theorem add_next (x : Addr) (m j : Nat) : x.add (m + (j + 1)) = ⟨(x.add m).block, (x.add m).off + (j + 1), none⟩ := by
  unfold Addr.add
  by_cases h : m = 0
  · subst h; simp
  · simp [h]; omega
theorem IsFrames.kept {w w' : World} {a : Option Addr} {n cap : Nat} {l : List FrV} (h : IsFrames w a n cap l) (hb : Below w.heap.size w w') : IsFrames w' a n cap l :=
  ⟨h.len, h.le, h.max, h.none, fun x hx i hi k hk => cell_kept hb (h.cell x hx i hi k hk), fun i hi => isBytes_below (h.bytes i hi) hb⟩
end Bw
end Go.Proofs.YtfomempleaceiaaDoor
namespace Go.Proofs.YtfomempleaceiaaDoor
open Go.ChangeShapes Go.WideShapes Go.ChangeAt Go.RowKit
namespace Bw
open Bm Cm
set_option maxHeartbeats 4000000 in
set_option maxRecDepth 100000 in
theorem eachBits_any (a : Option Addr) (n cap : Nat) (l : List FrV) (w : World) (hS : SizesAt w) (hR : RulesAt w) (hF : IsFrames w a n cap l) (hn : n ≤ 6) :
    Calls Tryd.prog 20 #[.slice a n cap, .func (.func 13) #[] #[]] w fun e w' =>
      (firE (l.map (·.f)) ≠ 0 → e = .returned (.tuple #[.slice none 0 0, .int .i64 (firE (l.map (·.f)))])) ∧
      (firE (l.map (·.f)) = 0 → ∃ v, e = .returned (.tuple #[v, .int .i64 0]) ∧ w'.ownsRow w.heap.size 9 1 v n (strC (l.map fun v => bitsL v.f))) ∧ Below w.heap.size w w' := by
  obtain ⟨i0, hi, hz0, hz1, hz2⟩ := info_parts info_str
  have HF := Hid.mk hF
  have HS := Hid.mk hS
  have HR := Hid.mk hR
  clear hF hS hR
  go_enter Tryd.func20, Tryd.ntmps20
  go_wp2_with fail
  go_loopw [6, 13] (fun r i wr => ∃ k : Nat, k ≤ n ∧ i = .int .i64 k ∧ Hid (wr.ownsRow w.heap.size 9 1 r k (strC ((l.take k).map fun v => bitsL v.f))) ∧ Hid (∀ v ∈ l.take k, frE v.f = 0) ∧ Hid (Below w.heap.size w wr)) (fun _ i _ => n - (intOf i).toNat)
  case atStart => exact ⟨0, Nat.zero_le _, rfl, Hid.mk (by simpa [strC] using World.ownsRow_nil _ _ _ _), Hid.mk (by simp), Hid.mk (Below.refl _ _)⟩
  case round =>
    obtain ⟨k, hk, rfl, HO, HZ, HB⟩ := hrel
    by_cases hlt : k < n
    · have hlt' : (k : Int) < (n : Int) := by omega
      have hkl : k < l.length := by rw [HF.out.len]; exact hlt
      cases a with
      | none => exact absurd (HF.out.none rfl) (by omega)
      | some x =>
        have cc := fun (j : Nat) (hj : j < 6) => cell_kept HB.out (HF.out.cell x rfl k hkl j hj)
        have hby := isBytes_below (HF.out.bytes k hkl) (show Below w.heap.size w wr from HB.out)
        have hfir := firE_take l k hkl HZ.out
        have hall := take_all hkl HZ.out
        have htk : strC ((l.take (k + 1)).map fun v => bitsL v.f) = strC ((l.take k).map fun v => bitsL v.f) ++ [.string ⟨(bitsL l[k].f).toArray⟩] := by
          rw [List.take_succ_eq_append_getElem hkl, List.map_append, strC_append]; rfl
        generalize l[k] = v at *
        obtain ⟨f, fa, fl, fc⟩ := v
        have c0 := cc 0 (by omega)
        have c1 := cc 1 (by omega)
        have c2 := cc 2 (by omega)
        have c3 := cc 3 (by omega)
        have c4 := cc 4 (by omega)
        have c5 := cc 5 (by omega)
        rw [add_next] at c1 c2 c3 c4 c5
        rw [Nat.add_zero] at c0
        simp only [FrV.cells, List.getElem_cons_zero, List.getElem_cons_succ, Nat.reduceAdd] at c0 c1 c2 c3 c4 c5
        simp only at hby hfir hall htk
        have hbx := below_box wr f.id f.lo f.fa f.re f.sz fa fl fc
        have hby2 := isBytes_below hby hbx
        have hB2 := bl2 HB.out hbx
        have ha := frBits_any f fa fl fc _ (HS.out.kept hB2) (HR.out.kept hB2) hby2
        have HO2 := Hid.mk (HO.out.alloc (frameC f.id f.lo f.fa f.re f.sz fa fl fc))
        have HB2 := Hid.mk hB2
        have HFI := Hid.mk hfir
        have HAL := Hid.mk hall
        have HTK := Hid.mk htk
        clear cc hfir hall htk hby hby2 hbx hB2
        unfold frameC at ha HO2 HB2
        unfold frameV at ha
        by_cases hE : frE f = 0
        · have hba : bitsA f = .tuple #[.string ⟨(bitsL f).toArray⟩, .int .i64 0] := by unfold bitsA; rw [if_pos hE]
          rw [hba] at ha
          have HA := Hid.mk ha
          have HE := Hid.mk hE
          generalize ByteArray.mk (bitsL f).toArray = X at *
          clear ha hE hba
          go_wp2_with fail
          refine HA.out.mono ?_
          rintro e w1 ⟨rfl, hb1⟩
          have HO1 := Hid.mk (ownsRow_below HO2.out hb1)
          have HB1 := Hid.mk (bl2 HB2.out hb1)
          clear hb1 HO2 HB2 HO HB HA
          go_wp2_with (at_builtin; refine wpList_append_own _ rfl (.tmp 26) (.tmp 28) 27 rfl w.heap.size 9 i0 (.string ⟨#[]⟩) 1 16 Tryd.underlying27 hi hz0 hz1 hz2 rfl (by decide) _ _ _ rfl (HO1.out.alloc _) ⟨w1.heap.size, 0, none⟩ 1 1 [Value.string X] rfl rfl (by intro q u hq; match q, hq with | 0, hq => (simp at hq; subst hq; simp [Addr.add])) (by intro u hu; simp at hu; subst hu; rfl) (by unfold maxLen; omega) (by omega) (by have := HB1.out.size; simp; omega) ?_; intro v3 w3 hown3 hgrow3 _)
          have hB3 : Below w.heap.size w w3 := Below.grown (HB1.out.alloc HB1.out.size _) hgrow3 (by have := HB1.out.size; simp; omega) (fun q hq => (HO1.out.lt q hq).1)
          rw [← HTK.out] at hown3
          clear hgrow3
          go_roundw
          case rel => exact ⟨k + 1, by omega, by go_num, Hid.mk hown3, Hid.mk (HAL.out HE.out), Hid.mk hB3⟩
          case measure => simp [intOf]; omega
        · have hba : bitsA f = .tuple #[.string ⟨#[]⟩, .int .i64 (frE f)] := by unfold bitsA; rw [if_neg hE]
          rw [hba] at ha
          have HA := Hid.mk ha
          have HE := Hid.mk (HFI.out hE)
          have HN := Hid.mk hE
          have hne : (frE f != 0) = true := by simpa using hE
          clear ha hE hba
          generalize frE f = ce at *
          go_wp2_with fail
          refine HA.out.mono ?_
          rintro e w1 ⟨rfl, hb1⟩
          have HB1 := Hid.mk (bl2 HB2.out hb1)
          clear hb1 HO2 HB2 HO HB HA
          go_wp2_with fail
          go_ret2
          exact ⟨fun _ => by rw [HE.out]; rfl, fun h => absurd (HE.out.symm.trans h) HN.out, HB1.out⟩
    · have e : k = n := by omega
      subst e
      have hz := HZ.out
      rw [List.take_of_length_le (by have := HF.out.len; omega)] at hz
      have hfz : firE (l.map (·.f)) = 0 := (firE_zero _).2 (fun f hf => by
        obtain ⟨v, hv, rfl⟩ := List.mem_map.1 hf
        exact hz v hv)
      have hown := HO.out
      rw [List.take_of_length_le (by have := HF.out.len; omega)] at hown
      have HOW := Hid.mk hown
      have HFZ := Hid.mk hfz
      clear hown hfz hz
      go_wp2_with fail
      go_ret2
      exact ⟨fun h => absurd HFZ.out h, fun _ => ⟨_, rfl, HOW.out⟩, HB.out⟩
end Bw
end Go.Proofs.YtfomempleaceiaaDoor
namespace Go.Proofs.YtfomempleaceiaaDoor
open Go.RowKit
namespace Bw
theorem run_append_two {P : Program} (w : World) (base : Nat) (t ty e : TypeId) (i : TypeInfo) (z : Value) (size bytes : Nat) (ht : P.underlying t = some (.slice e)) (hi : P.info? e = some i) (hz : i.zero = some z)
    (hsize : i.size = size) (hby : i.bytes = bytes) (hzs : z.cells.size = size) (hsz : 0 < size)
    (v : Value) (n : Nat) (xs : List Value) (hown : w.ownsRow base e size v n xs)
    (a : Addr) (m c : Nat) (news : List Value) (hl : news.length = m * size) (hnews : ∀ j u, news[j]? = some u → w.cell? (a.add j) = some u) (h1 : ∀ u ∈ news, u.oneCell' = true)
    (h0 : 0 < m) (h63 : n + m ≤ maxLen) (hbytes : (n + m) * bytes ≤ 140737488355328) (hbase : base ≤ w.heap.size) :
    ∃ v' w', (Builtin.append_ #[t, t] ty #[v, .slice (some a) m c]).run P w = .ok v' w' ∧ w'.ownsRow base e size v' (n + m) (xs ++ news) ∧ w.grownBy w' v.ownBlock ∧ (v'.ownBlock = v.ownBlock ∨ v'.ownBlock = some w.heap.size) := by
  obtain ⟨v', w', hr, h2, h3, -⟩ := run_append_own (P := P) w base t ty e i z size bytes ht hi hz hsize hby hzs hsz v n xs hown a m c news hl hnews h1 h63 hbytes hbase
  refine ⟨v', w', hr, h2, h3, ?_⟩
  subst hsize
  subst hby
  have hsmall : n + m ≤ 9223372036854775807 := by simp only [maxLen] at h63; omega
  rcases hown.2 with ⟨rfl, rfl⟩ | ⟨g, cap, cur, rfl, hbg, hg, hnc, hcm, hcs, htake⟩
  · have hq := run_append_nil (P := P) w t ty e i z ht hi hz a m c news hl hnews h0 (by omega) (by have hb := hbytes; simp only [Nat.zero_add] at hb; omega)
    rw [hq] at hr
    injection hr with e1 e2
    right; rw [← e1]; rfl
  · by_cases hroom : n + m ≤ cap
    · have hfit : n * i.size + news.length ≤ cur.size := by rw [hl, hcs, ← Nat.add_mul]; exact Nat.mul_le_mul_right _ hroom
      have hq := run_append_room (P := P) w t ty e i ht hi g n cap cur hg a m c news hl hnews h1 hroom hfit
      rw [hq] at hr
      injection hr with e1 e2
      left; rw [← e1]; rfl
    · have holds : ∀ j u, xs[j]? = some u → w.cell? ((⟨g, 0, none⟩ : Addr).add j) = some u := hown.cells (g := g) rfl
      have hq := run_append_grow (P := P) w t ty e i z ht hi hz ⟨g, 0, none⟩ n cap xs hown.1 holds a m c news hl hnews (by omega) (by omega) (growslice_fits (by omega) hbytes)
      rw [hq] at hr
      injection hr with e1 e2
      right; rw [← e1]; rfl
theorem wpList_append_two {P : Program} {w : World} {ops : Array Oper} {rest : List Oper} {o : Oper} {a : Act} {Q : Exit → Act → World → Prop} (hgd : o.guard = none) (s x : Operand) (t : TypeId)
    (ho : o.op = .call { callee := .builtin .append, args := #[s, x], argTypes := #[t, t] })
    (base : Nat) (e : TypeId) (i : TypeInfo) (z : Value) (size bytes : Nat) (ht : P.underlying t = some (.slice e)) (hi : P.info? e = some i) (hz : i.zero = some z)
    (hsize : i.size = size) (hby : i.bytes = bytes) (hzs : z.cells.size = size) (hsz : 0 < size)
    (v : Value) (n : Nat) (xs : List Value) (hs : a.eval s = v) (hown : w.ownsRow base e size v n xs)
    (ad : Addr) (m c : Nat) (news : List Value) (hx : a.eval x = .slice (some ad) m c) (hl : news.length = m * size) (hnews : ∀ j u, news[j]? = some u → w.cell? (ad.add j) = some u) (h1 : ∀ u ∈ news, u.oneCell' = true)
    (h0 : 0 < m) (h63 : n + m ≤ maxLen) (hbytes : (n + m) * bytes ≤ 140737488355328) (hbase : base ≤ w.heap.size)
    (h : ∀ v' w', w'.ownsRow base e size v' (n + m) (xs ++ news) → w.grownBy w' v.ownBlock → (v'.ownBlock = v.ownBlock ∨ v'.ownBlock = some w.heap.size) → wpList P ops Q rest (a.put o.dst v') w') : wpList P ops Q (o :: rest) a w := by
  refine wpList_plain hgd fun K hK => ?_
  obtain ⟨v', w', hr, h2, h3, h4⟩ := run_append_two (P := P) w base t o.type e i z size bytes ht hi hz hsize hby hzs hsz v n xs hown ad m c news hl hnews h1 h0 h63 hbytes hbase
  unfold Oper.wp
  simp [execOp, ho, resolve, invoke, builtin, hs, hx, hr, Result.andThen]
  exact hK _ _ (h v' w' h2 h3 h4)
/-- another row stays as it was -/
theorem owns_beside {w w' : World} {base : Nat} {e : TypeId} {size : Nat} {v : Value} {n : Nat} {xs : List Value} {row : Option Nat} (h : w.ownsRow base e size v n xs) (hg : w.grownBy w' row) (hne : ∀ k, v.ownBlock = some k → some k ≠ row) : w'.ownsRow base e size v n xs := by
  obtain ⟨h1, h2⟩ := h
  refine ⟨h1, ?_⟩
  rcases h2 with h2 | ⟨g, cap, cur, hv, hgb, hh, r⟩
  · exact Or.inl h2
  · subst hv
    refine Or.inr ⟨g, cap, cur, rfl, hgb, ?_, r⟩
    rw [hg.block g (lt_of_block hh) (hne g rfl)]
    exact hh
/-- two rows lie apart -/
def ApartV (v u : Value) : Prop := ∀ k, v.ownBlock = some k → u.ownBlock ≠ some k
theorem ApartV.symm {v u : Value} (h : ApartV v u) : ApartV u v := fun k hk hv => h k hv hk
theorem apart_next {w : World} {base : Nat} {e : TypeId} {size : Nat} {v v' u : Value} {n : Nat} {xs : List Value} (h : ApartV v u) (hu : w.ownsRow base e size u n xs) (hb : v'.ownBlock = v.ownBlock ∨ v'.ownBlock = some w.heap.size) : ApartV v' u := by
  intro k hk hx
  rcases hb with hb | hb
  · exact h k (by rw [← hb]; exact hk) hx
  · rw [hb] at hk
    have := (World.ownsRow.lt hu k hx).2
    simp at hk
    omega
end Bw
end Go.Proofs.YtfomempleaceiaaDoor
namespace Go.Proofs.YtfomempleaceiaaDoor
open Go.ChangeShapes Go.WideShapes Go.ChangeAt Go.RowKit
namespace Bw
open Bm

theorem info_int : (Tryd.prog.info? 3).map (fun i => (i.zero, i.size, i.bytes)) = some (some (.int .i64 0), 1, 8) := by kernel_rfl
/-- numbers as cells -/
def intC (l : List Int) : List Value := l.map fun n => .int .i64 n
theorem intC_append (a b : List Int) : intC (a ++ b) = intC a ++ intC b := by simp [intC]
theorem intC_length (l : List Int) : (intC l).length = l.length := by simp [intC]
theorem zerK_yes {rows : List (List UInt8)} {lost : List Int} {n k : Nat} (h1 : sends rows lost n k = true) (h2 : isZ rows n k = true) : zerK rows lost n (k + 1) = zerK rows lost n k ++ [(k : Int)] ∧ oneK rows lost n (k + 1) = oneK rows lost n k := by
  rw [zerK, oneK, h1, h2]; exact ⟨rfl, rfl⟩
theorem oneK_yes {rows : List (List UInt8)} {lost : List Int} {n k : Nat} (h1 : sends rows lost n k = true) (h2 : isZ rows n k = false) : oneK rows lost n (k + 1) = oneK rows lost n k ++ [(k : Int)] ∧ zerK rows lost n (k + 1) = zerK rows lost n k := by
  rw [zerK, oneK, h1, h2]; exact ⟨rfl, rfl⟩
theorem sends_no {rows : List (List UInt8)} {lost : List Int} {n k : Nat} (h1 : sends rows lost n k = false) : zerK rows lost n (k + 1) = zerK rows lost n k ∧ oneK rows lost n (k + 1) = oneK rows lost n k := by
  rw [zerK, oneK, h1]; exact ⟨rfl, rfl⟩

set_option maxHeartbeats 4000000 in
set_option maxRecDepth 100000 in
theorem senders_any (gr cr gl cl n at_ : Nat) (rows : List (List UInt8)) (lost : List Int) (w : World) (hr : rows.length = n) (hl : lost.length = n) (hn : n ≤ 6) (hlen : ∀ r ∈ rows, r.length ≤ 1000) (hX : StrsAt w gr 0 rows) (hY : NumsAt w gl 0 lost) :
    Calls Tryd.prog 46 #[.slice (some ⟨gr, 0, none⟩) n cr, .slice (some ⟨gl, 0, none⟩) n cl, .int .i64 at_] w fun e w' => ∃ zv ov, e = .returned (.tuple #[zv, ov]) ∧
      w'.ownsRow w.heap.size 3 1 zv (zerK rows lost at_ n).length (intC (zerK rows lost at_ n)) ∧ w'.ownsRow w.heap.size 3 1 ov (oneK rows lost at_ n).length (intC (oneK rows lost at_ n)) ∧ Below w.heap.size w w' := by
  obtain ⟨i0, hi, hz0, hz1, hz2⟩ := info_parts info_int
  have HX := Hid.mk hX
  have HY := Hid.mk hY
  have HR := Hid.mk hr
  have HL := Hid.mk hl
  have HLN := Hid.mk hlen
  clear hX hY hr hl hlen
  go_enter Tryd.func46, Tryd.ntmps46
  go_wp2_with fail
  go_loopw [6, 7, 11] (fun z o i wr => ∃ k : Nat, k ≤ n ∧ i = .int .i64 k ∧ Hid (wr.ownsRow w.heap.size 3 1 z (zerK rows lost at_ k).length (intC (zerK rows lost at_ k))) ∧ Hid (wr.ownsRow w.heap.size 3 1 o (oneK rows lost at_ k).length (intC (oneK rows lost at_ k))) ∧ Hid (ApartV z o) ∧ Hid (Below w.heap.size w wr)) (fun _ _ i _ => n - (intOf i).toNat)
  case atStart => exact ⟨0, Nat.zero_le _, rfl, Hid.mk (by simpa [zerK, intC] using World.ownsRow_nil _ _ _ _), Hid.mk (by simpa [oneK, intC] using World.ownsRow_nil _ _ _ _), Hid.mk (fun k hk => by cases hk), Hid.mk (Below.refl _ _)⟩
  case round =>
    obtain ⟨k, hk, rfl, HZ, HO, HA, HB⟩ := hrel
    by_cases hlt : k < n
    · have hlt' : (k : Int) < (n : Int) := by omega
      have c1 := cell_kept HB.out (HY.out k (by rw [HL.out]; exact hlt))
      have c2 := cell_kept HB.out (HX.out k (by rw [HR.out]; exact hlt))
      simp only [Nat.zero_add] at c1 c2
      obtain ⟨R, hR⟩ : ∃ R : ByteArray, R = ⟨(rows.getD k []).toArray⟩ := ⟨_, rfl⟩
      have hRl : R.data.toList = rows.getD k [] := by rw [hR]
      have hRs : R.size = (rows.getD k []).length := ba_size hRl
      have hR1000 : R.size ≤ 1000 := by rw [hRs]; exact HLN.out _ (row_mem rows k (by rw [HR.out]; exact hlt))
      rw [← hR] at c2
      obtain ⟨x, hx⟩ : ∃ x, x = lost.getD k 0 := ⟨_, rfl⟩
      rw [← hx] at c1
      have HRl := Hid.mk hRl
      have HRs := Hid.mk hRs
      have HXx := Hid.mk hx
      clear hR hRl hRs hx
      by_cases h1 : x = -1
      · by_cases h2 : at_ < R.size
        · have hs : sends rows lost at_ k = true := by
            unfold sends
            rw [← HXx.out, h1, ← HRs.out]
            simpa using h2
          have hat2 := at_getD R at_ h2
          rw [HRl.out] at hat2
          have hb1 : (x != -1) = false := by rw [h1]; rfl
          by_cases h3 : (rows.getD k []).getD at_ 0 = 48
          · have hzz : isZ rows at_ k = true := by unfold isZ; rw [h3]; rfl
            have hb2 : ((R[at_].toNat : Int) == 48) = true := by rw [hat2, h3]; rfl
            have HS := Hid.mk (zerK_yes hs hzz)
            have hsz := zerK_len rows lost at_ k
            clear h3 hzz hs hat2 h1
            go_wp2_with (at_builtin; refine wpList_append_two rfl (.tmp 41) (.tmp 43) 36 rfl w.heap.size 3 i0 (.int .i64 0) 1 8 Tryd.underlying36 hi hz0 hz1 hz2 rfl (by decide) _ _ _ rfl (HZ.out.alloc _) ⟨wr.heap.size, 0, none⟩ 1 1 [Value.int .i64 k] rfl rfl (by intro q u hq; match q, hq with | 0, hq => (simp at hq; subst hq; simp [Addr.add])) (by intro u hu; simp at hu; subst hu; rfl) (by decide) (by unfold maxLen; omega) (by omega) (by have := HB.out.size; simp; omega) ?_; intro v1 w3 hown1 hgrow1 hblk1)
            have hB3 : Below w.heap.size w w3 := Below.grown (HB.out.alloc HB.out.size _) hgrow1 (by have := HB.out.size; simp; omega) (fun q hq => (HZ.out.lt q hq).1)
            have hoth := owns_beside (HO.out.alloc _) hgrow1 (fun q hq e => HA.out q e.symm hq)
            have hown2 := hown1
            rw [show intC (zerK rows lost at_ k) ++ [Value.int .i64 k] = intC (zerK rows lost at_ (k + 1)) by rw [HS.out.1, intC_append]; rfl, show (zerK rows lost at_ k).length + 1 = (zerK rows lost at_ (k + 1)).length by rw [HS.out.1]; simp] at hown2
            rw [← HS.out.2] at hoth
            have HAp := Hid.mk (apart_next (v := u6) HA.out (HO.out.alloc _) hblk1)
            clear hown1 hgrow1 hblk1
            go_roundw
            case rel => exact ⟨k + 1, by omega, by go_num, Hid.mk hown2, Hid.mk hoth, HAp, Hid.mk hB3⟩
            case measure => simp [intOf]; omega
          · have hzz : isZ rows at_ k = false := by unfold isZ; simpa using h3
            have hb2 : ((R[at_].toNat : Int) == 48) = false := by
              rw [hat2, beq_eq_false_iff_ne]
              intro hx
              apply h3
              have h48 : ((rows.getD k []).getD at_ 0).toNat = 48 := by omega
              exact UInt8.toNat_inj.1 h48
            have HS := Hid.mk (oneK_yes hs hzz)
            have hsz := oneK_len rows lost at_ k
            clear h3 hzz hs hat2 h1
            go_wp2_with (at_builtin; refine wpList_append_two rfl (.tmp 14) (.tmp 16) 36 rfl w.heap.size 3 i0 (.int .i64 0) 1 8 Tryd.underlying36 hi hz0 hz1 hz2 rfl (by decide) _ _ _ rfl (HO.out.alloc _) ⟨wr.heap.size, 0, none⟩ 1 1 [Value.int .i64 k] rfl rfl (by intro q u hq; match q, hq with | 0, hq => (simp at hq; subst hq; simp [Addr.add])) (by intro u hu; simp at hu; subst hu; rfl) (by decide) (by unfold maxLen; omega) (by omega) (by have := HB.out.size; simp; omega) ?_; intro v1 w3 hown1 hgrow1 hblk1)
            have hB3 : Below w.heap.size w w3 := Below.grown (HB.out.alloc HB.out.size _) hgrow1 (by have := HB.out.size; simp; omega) (fun q hq => (HO.out.lt q hq).1)
            have hoth := owns_beside (HZ.out.alloc _) hgrow1 (fun q hq e => HA.out.symm q e.symm hq)
            have hown2 := hown1
            rw [show intC (oneK rows lost at_ k) ++ [Value.int .i64 k] = intC (oneK rows lost at_ (k + 1)) by rw [HS.out.1, intC_append]; rfl, show (oneK rows lost at_ k).length + 1 = (oneK rows lost at_ (k + 1)).length by rw [HS.out.1]; simp] at hown2
            rw [← HS.out.2] at hoth
            have HAp := Hid.mk ((apart_next (v := u7) HA.out.symm (HZ.out.alloc _) hblk1).symm)
            clear hown1 hgrow1 hblk1
            go_roundw
            case rel => exact ⟨k + 1, by omega, by go_num, Hid.mk hoth, Hid.mk hown2, HAp, Hid.mk hB3⟩
            case measure => simp [intOf]; omega
        · have hs : sends rows lost at_ k = false := by
            unfold sends
            rw [← HRs.out]
            simp
            intro _
            omega
          have HS := Hid.mk (sends_no hs)
          have hb1 : (x != -1) = false := by rw [h1]; rfl
          have h2' : (R.size : Int) ≤ (at_ : Int) := by omega
          clear hs h1
          go_wp2_with fail
          go_roundw
          case rel => exact ⟨k + 1, by omega, by go_num, by rw [HS.out.1]; exact HZ, by rw [HS.out.2]; exact HO, HA, HB⟩
          case measure => simp [intOf]; omega
      · have hs : sends rows lost at_ k = false := by
          unfold sends
          rw [← HXx.out]
          simp
          intro h; exact absurd h h1
        have HS := Hid.mk (sends_no hs)
        have hb1 : (x != -1) = true := by simpa using h1
        clear hs h1
        go_wp2_with fail
        go_roundw
        case rel => exact ⟨k + 1, by omega, by go_num, by rw [HS.out.1]; exact HZ, by rw [HS.out.2]; exact HO, HA, HB⟩
        case measure => simp [intOf]; omega
    · have e : k = n := by omega
      subst e
      go_wp2_with fail
      go_ret2
      exact ⟨_, _, rfl, HZ.out, HO.out, HB.out⟩
end Bw
end Go.Proofs.YtfomempleaceiaaDoor
