/- The law FrameBits: any frame has the name and the bits that the document says, errors too. -/
import Derived.Test.YtemohjamcdkcmaaGreatDoorC2
import Derived.Test.YtemohjamcdkcmaaGreatDoorC14
import Derived.Test.YtemohjamcdkcmaaGreatDoorC5
import Derived.Lib.QuietBelow
import Derived.Test.YtemohjamcdkcmaaGreatDoorFramed
import Derived.Test.YtemohjamcdkcmaaGreatDoorRF
import Derived.Test.YtemohjamcdkcmaaGreatDoorC22
namespace Go.Proofs.YtemohjamcdkcmaaGreatDoor
open Go.ChangeShapes Go.WideShapes Go.ChangeAt Go.RowKit
namespace Bw
open Bm Cm Classical

theorem convert_bytes {w : World} {a : Option Addr} {len cap : Nat} {l : List UInt8} (h : IsBytes w a len cap l) :
    (convert 22 9 (.slice a len cap)).run Tryz.prog w = .ok (.string ⟨l.toArray⟩) w := by
  obtain ⟨h1, h2, h3, h4, h5⟩ := h
  cases a with
  | none =>
    have h0 := h4 rfl
    subst h0
    have hl : l = [] := List.eq_nil_of_length_eq_zero h1
    subst hl
    exact run_convert_bytes_nil w 22 5 Tryz.underlying22 Tryz.underlying5 0 cap 9 Tryz.underlying9
  | some x =>
    have := run_convert_bytes_back w 22 9 5 x cap l Tryz.underlying22 Tryz.underlying5 Tryz.underlying9 (fun j hj => by
      rw [h5 x rfl j (by omega)]
      simp [List.getD, hj])
    rw [h1] at this
    exact this
theorem ba_listEq {A B : ByteArray} {x y : List UInt8} (hA : A.data.toList = x) (hB : B.data.toList = y) : (A.toList == B.toList) = decide (x = y) := by
  rw [ByteArray.toList_eq, ByteArray.toList_eq, hA, hB, Bool.eq_iff_iff, beq_iff_eq, decide_eq_true_iff]
set_option maxHeartbeats 1000000 in
theorem bytesEqual_any (a1 a2 : Option Addr) (n1 c1 n2 c2 : Nat) (l1 l2 : List UInt8) (w : World) (h1 : IsBytes w a1 n1 c1 l1) (h2 : IsBytes w a2 n2 c2 l2) :
    Calls Tryz.prog 40 #[.slice a1 n1 c1, .slice a2 n2 c2] w fun e w' => e = .returned (.bool (decide (l1 = l2))) ∧ w' = w := by
  have k1 := convert_bytes h1
  have k2 := convert_bytes h2
  have hl1 := mk_list l1
  have hl2 := mk_list l2
  have hz1 : l1.length ≤ maxLen := by rw [h1.1]; have := h1.2.1; have := h1.2.2.1; omega
  have hz2 : l2.length ≤ maxLen := by rw [h2.1]; have := h2.2.1; have := h2.2.2.1; omega
  generalize ByteArray.mk l1.toArray = A at *
  generalize ByteArray.mk l2.toArray = B at *
  have he := ba_listEq hl1 hl2
  rw [← he]
  clear h1 h2 hl1 hl2 he hz1 hz2
  go_enter Tryz.func40, Tryz.ntmps40
  go_wp2_with fail
  go_ret
  exact ⟨rfl, rfl⟩

set_option maxHeartbeats 8000000 in
theorem same_any (f g : Fr) (a1 a2 : Option Addr) (n1 c1 n2 c2 : Nat) (w : World) (h1 : IsBytes w a1 n1 c1 f.dt) (h2 : IsBytes w a2 n2 c2 g.dt) :
    Calls Tryz.prog 14 #[frameV f.id f.lo f.fa f.re f.sz a1 n1 c1, frameV g.id g.lo g.fa g.re g.sz a2 n2 c2] w fun e w' => e = .returned (.bool (decide (f = g))) ∧ Below w.heap.size w w' := by
  obtain ⟨id1, lo1, fa1, re1, sz1, dt1⟩ := f
  obtain ⟨id2, lo2, fa2, re2, sz2, dt2⟩ := g
  simp only at h1 h2 ⊢
  have hB1 := below_box w id1 lo1 fa1 re1 sz1 a1 n1 c1
  have hB2 := below_box (w.alloc (frameC id1 lo1 fa1 re1 sz1 a1 n1 c1)) id2 lo2 fa2 re2 sz2 a2 n2 c2
  have hB := bl2 hB1 hB2
  have HY1 := Hid.mk (isBytes_below h1 hB)
  have HY2 := Hid.mk (isBytes_below h2 hB)
  have HB := Hid.mk hB
  unfold frameC at HY1 HY2 HB
  unfold frameV
  clear h1 h2 hB1 hB2 hB
  by_cases hid : id1 = id2
  · subst hid
    by_cases hlo : lo1 = lo2
    · subst hlo
      by_cases hfa : fa1 = fa2
      · subst hfa
        by_cases hre : re1 = re2
        · subst hre
          by_cases hsz : sz1 = sz2
          · subst hsz
            by_cases hdt : dt1 = dt2
            · have hd : decide (dt1 = dt2) = true := by simpa using hdt
              have hbe := fun W hW1 hW2 => bytesEqual_any a1 a2 n1 c1 n2 c2 dt1 dt2 W hW1 hW2
              rw [hd] at hbe
              have HBE := Hid.mk hbe
              have hr : decide ((⟨id1, lo1, fa1, re1, sz1, dt1⟩ : Fr) = ⟨id1, lo1, fa1, re1, sz1, dt2⟩) = true := by simp [hdt]
              rw [hr]
              clear hbe hd hr hdt
              go_enter Tryz.func14, Tryz.ntmps14
              go_wp2_with fail
              refine (HBE.out _ HY1.out HY2.out).mono ?_
              rintro e w1 ⟨rfl, hw1⟩
              subst hw1
              go_wp2_with fail
              go_ret
              exact ⟨rfl, HB.out⟩
            · have hd : decide (dt1 = dt2) = false := by simpa using hdt
              have hbe := fun W hW1 hW2 => bytesEqual_any a1 a2 n1 c1 n2 c2 dt1 dt2 W hW1 hW2
              rw [hd] at hbe
              have HBE := Hid.mk hbe
              have hr : decide ((⟨id1, lo1, fa1, re1, sz1, dt1⟩ : Fr) = ⟨id1, lo1, fa1, re1, sz1, dt2⟩) = false := by simp [hdt]
              rw [hr]
              clear hbe hd hr hdt
              go_enter Tryz.func14, Tryz.ntmps14
              go_wp2_with fail
              refine (HBE.out _ HY1.out HY2.out).mono ?_
              rintro e w1 ⟨rfl, hw1⟩
              subst hw1
              go_wp2_with fail
              go_ret
              exact ⟨rfl, HB.out⟩
          · have hb : (sz1 == sz2) = false := by simpa using hsz
            have hr : decide ((⟨id1, lo1, fa1, re1, sz1, dt1⟩ : Fr) = ⟨id1, lo1, fa1, re1, sz2, dt2⟩) = false := by simp [hsz]
            rw [hr]
            clear hr hsz
            go_enter Tryz.func14, Tryz.ntmps14
            go_wp2_with fail
            go_ret
            exact ⟨rfl, HB.out⟩
        · have hb : (re1 == re2) = false := by simpa using hre
          have hr : decide ((⟨id1, lo1, fa1, re1, sz1, dt1⟩ : Fr) = ⟨id1, lo1, fa1, re2, sz2, dt2⟩) = false := by simp [hre]
          rw [hr]
          clear hr hre
          go_enter Tryz.func14, Tryz.ntmps14
          go_wp2_with fail
          go_ret
          exact ⟨rfl, HB.out⟩
      · have hb : (fa1 == fa2) = false := by simpa using hfa
        have hr : decide ((⟨id1, lo1, fa1, re1, sz1, dt1⟩ : Fr) = ⟨id1, lo1, fa2, re2, sz2, dt2⟩) = false := by simp [hfa]
        rw [hr]
        clear hr hfa
        go_enter Tryz.func14, Tryz.ntmps14
        go_wp2_with fail
        go_ret
        exact ⟨rfl, HB.out⟩
    · have hb : (lo1 == lo2) = false := by simpa using hlo
      have hr : decide ((⟨id1, lo1, fa1, re1, sz1, dt1⟩ : Fr) = ⟨id1, lo2, fa2, re2, sz2, dt2⟩) = false := by simp [hlo]
      rw [hr]
      clear hr hlo
      go_enter Tryz.func14, Tryz.ntmps14
      go_wp2_with fail
      go_ret
      exact ⟨rfl, HB.out⟩
  · have hb : (id1 == id2) = false := by simpa using hid
    have hr : decide ((⟨id1, lo1, fa1, re1, sz1, dt1⟩ : Fr) = ⟨id2, lo2, fa2, re2, sz2, dt2⟩) = false := by simp [hid]
    rw [hr]
    clear hr hid
    go_enter Tryz.func14, Tryz.ntmps14
    go_wp2_with fail
    go_ret
    exact ⟨rfl, HB.out⟩
end Bw
end Go.Proofs.YtemohjamcdkcmaaGreatDoor
namespace Go.Proofs.YtemohjamcdkcmaaGreatDoor
open Go.ChangeShapes Go.WideShapes Go.ChangeAt Go.RowKit
namespace Bw
open Bm Cm

def nameA (f : Fr) : Value := if frE f = 0 then .tuple #[.string ⟨(nameL f).toArray⟩, .int .i64 0] else .tuple #[.string ⟨#[]⟩, .int .i64 (frE f)]
set_option maxHeartbeats 4000000 in
theorem frName_any (f : Fr) (a : Option Addr) (len cap : Nat) (w : World) (hS : SizesAt w) (hl : len ≤ maxLen) (hd : f.dt.length = len) :
    Calls Tryz.prog 8 #[frameV f.id f.lo f.fa f.re f.sz a len cap] w fun e w' => e = .returned (nameA f) ∧ Below w.heap.size w w' := by
  have hB := below_box w f.id f.lo f.fa f.re f.sz a len cap
  have hK := FrAt.box w f.id f.lo f.fa f.re f.sz a len cap
  have hck := frCheck_any f.id f.lo f.fa f.re f.sz a len cap _ (hS.kept hB) hl
  have hE : frEn f.id f.lo f.fa f.re f.sz len = frE f := by unfold frE; rw [hd]
  rw [hE] at hck
  have hnm := fun W h0 h1 => name_any f a len cap W h0 h1
  have hok := fun h => frE_ok (f := f) h
  unfold frameC at hB hK hck
  unfold frameV at hnm hck ⊢
  unfold nameA
  have HK := Hid.mk hK
  have HCK := Hid.mk hck
  have HNM := Hid.mk hnm
  have HOK := Hid.mk hok
  clear hS hl hd hK hck hnm hE hok
  by_cases hE : frE f = 0
  · rw [if_pos hE]
    obtain ⟨q1, q2, -⟩ := HOK.out hE
    have HQ1 := Hid.mk q1
    have HQ2 := Hid.mk q2
    rw [hE] at HCK
    clear hE q1 q2
    go_enter Tryz.func8, Tryz.ntmps8
    go_wp2_with fail
    refine HCK.out.mono ?_
    rintro e w1 ⟨rfl, hb1⟩
    have hbel1 := bl2 hB hb1
    obtain ⟨k0, k1, k2, k3, k4, k5⟩ := HK.out.kept hb1
    clear hB hb1
    go_wp2_with fail
    refine (HNM.out _ HQ1.out HQ2.out).mono ?_
    rintro e w2 ⟨rfl, hb2⟩
    have hbel2 := bl2 hbel1 hb2
    clear hbel1 hb2 k0 k1 k2 k3 k4 k5
    go_wp2_with fail
    go_ret2
    exact ⟨rfl, hbel2⟩
  · rw [if_neg hE]
    have hne : (frE f != 0) = true := by simpa using hE
    generalize frE f = ce at *
    go_enter Tryz.func8, Tryz.ntmps8
    go_wp2_with fail
    refine HCK.out.mono ?_
    rintro e w1 ⟨rfl, hb1⟩
    have hbel1 := bl2 hB hb1
    clear hB hb1
    go_wp2_with fail
    go_ret2
    exact ⟨rfl, hbel1⟩

end Bw
end Go.Proofs.YtemohjamcdkcmaaGreatDoor
namespace Go.Proofs.YtemohjamcdkcmaaGreatDoor
open Go.ChangeShapes Go.WideShapes Go.ChangeAt Go.RowKit
namespace Bw
open Bm Cm Go.Sort

theorem frame_iO : (Tryz.prog.info? 24).map (·.size) = some 6 := by kernel_rfl
theorem isBytes_tchO {gs : List Nat} {w w' : World} {a : Option Addr} {len cap : Nat} {l : List UInt8} (hb : IsBytes w a len cap l) (ht : Tch gs w w') (hg : ∀ x, a = some x → x.block ∉ gs) : IsBytes w' a len cap l := by
  refine ⟨hb.1, hb.2.1, hb.2.2.1, hb.2.2.2.1, fun x hx i hi => ?_⟩
  have hv := hb.2.2.2.2 x hx i hi
  have hlt := block_lt_of_cell hv
  have hblk : (x.add i).block = x.block := by unfold Addr.add; split <;> rfl
  unfold World.cell? at hv ⊢
  rw [ht.block _ hlt (by rw [hblk]; exact hg x hx)]
  exact hv
theorem isBytes_ownO {w : World} {base : Nat} {v : Value} {n : Nat} {l : List UInt8} (h : w.ownsRow base 5 1 v n (cellsOf l)) :
    ∃ a cap, v = .slice a n cap ∧ IsBytes w a n cap l ∧ ∀ x, a = some x → base ≤ x.block := by
  have h0 := h
  obtain ⟨hl, h2⟩ := h
  have hn : l.length = n := by simpa [cellsOf] using hl
  rcases h2 with ⟨rfl, h1⟩ | ⟨g, cap, cur, rfl, hg, hh, hc, hm, hsz, htk⟩
  · subst h1; exact ⟨none, 0, rfl, ⟨hn, Nat.le_refl _, Nat.zero_le _, (fun _ => rfl), (fun x hx => by cases hx)⟩, fun x hx => by cases hx⟩
  · refine ⟨some ⟨g, 0, none⟩, cap, rfl, ⟨hn, hc, hm, (fun h => by cases h), fun x hx i hi => ?_⟩, fun x hx => by cases hx; exact hg⟩
    cases hx
    exact h0.cells rfl i _ (by simp [cellsOf, hn, hi])
def zC : Obj := .cells #[.int .i64 0, .bool false, .bool false, .bool false, .int .i64 0, .slice none 0 0] 24
/-- behind the append -/
theorem own_end (id : Int) (lo fa re : Bool) (sz : Int) (a : Option Addr) (len cap : Nat) (ao : Option Addr) (co : Nat) (dt : List UInt8) (w w3 : World)
    (hB : Below w.heap.size w w3) (_hz1 : w3.heap[w.heap.size]? = some (.cells #[.int .i64 id, .bool lo, .bool fa, .bool re, .int .i64 sz, .slice a len cap] 24 (0, 0)))
    (hz2 : w3.heap[w.heap.size + 1]? = some (.cells #[.int .i64 0, .bool false, .bool false, .bool false, .int .i64 0, .slice none 0 0] 24 (0, 0)))
    (hby : IsBytes w3 ao len co dt) (hblk : ∀ x, ao = some x → w.heap.size + 2 ≤ x.block) :
    let wF := (((((((w3.setCell ⟨w.heap.size, 5, none⟩ (.slice ao len co)).setCell ⟨(w.heap.size + 1), 0, none⟩ (.int .i64 id)).setCell ⟨(w.heap.size + 1), 1, none⟩ (.bool lo)).setCell ⟨(w.heap.size + 1), 2, none⟩ (.bool fa)).setCell ⟨(w.heap.size + 1), 3, none⟩ (.bool re)).setCell ⟨(w.heap.size + 1), 4, none⟩ (.int .i64 sz)).setCell ⟨(w.heap.size + 1), 5, none⟩ (.slice ao len co))
    wF.heap[w.heap.size + 1]? = some (.cells #[.int .i64 id, .bool lo, .bool fa, .bool re, .int .i64 sz, .slice ao len co] 24 (0, 0)) ∧ IsBytes wF ao len co dt ∧ Below w.heap.size w wF := by
  intro wF
  have hT1 : Tch [w.heap.size, w.heap.size + 1] w3 wF := ((((((((Tch.refl [w.heap.size, w.heap.size + 1] w3).setK (by simp) _ _).setK (by simp) _ _).setK (by simp) _ _).setK (by simp) _ _).setK (by simp) _ _).setK (by simp) _ _).setK (by simp) _ _)
  have hz2s : (w3.setCell ⟨w.heap.size, 5, none⟩ (.slice ao len co)).heap[w.heap.size + 1]? = some (.cells #[.int .i64 0, .bool false, .bool false, .bool false, .int .i64 0, .slice none 0 0] 24 (0, 0)) := by
    rw [Below.heap_setCell _ _ _ _ (by simp)]; exact hz2
  have kc0 := cell_of_row (w3.setCell ⟨w.heap.size, 5, none⟩ (.slice ao len co)) (w.heap.size + 1) 0 _ _ _ hz2s
  have kz0 := frozen_of_row (w3.setCell ⟨w.heap.size, 5, none⟩ (.slice ao len co)) (w.heap.size + 1) 0 _ _ hz2s
  have ks0 := heap_setCell_same (w3.setCell ⟨w.heap.size, 5, none⟩ (.slice ao len co)) (w.heap.size + 1) 0 _ _ (.int .i64 id) hz2s
  simp only [List.setIfInBounds_toArray, List.set_cons_zero] at ks0
  simp at kc0
  have kc1 := cell_of_row ((w3.setCell ⟨w.heap.size, 5, none⟩ (.slice ao len co)).setCell ⟨(w.heap.size + 1), 0, none⟩ (.int .i64 id)) (w.heap.size + 1) 1 _ _ _ ks0
  have kz1 := frozen_of_row ((w3.setCell ⟨w.heap.size, 5, none⟩ (.slice ao len co)).setCell ⟨(w.heap.size + 1), 0, none⟩ (.int .i64 id)) (w.heap.size + 1) 1 _ _ ks0
  have ks1 := heap_setCell_same ((w3.setCell ⟨w.heap.size, 5, none⟩ (.slice ao len co)).setCell ⟨(w.heap.size + 1), 0, none⟩ (.int .i64 id)) (w.heap.size + 1) 1 _ _ (.bool lo) ks0
  simp only [List.setIfInBounds_toArray, List.set_cons_zero, List.set_cons_succ] at ks1
  simp at kc1
  have kc2 := cell_of_row (((w3.setCell ⟨w.heap.size, 5, none⟩ (.slice ao len co)).setCell ⟨(w.heap.size + 1), 0, none⟩ (.int .i64 id)).setCell ⟨(w.heap.size + 1), 1, none⟩ (.bool lo)) (w.heap.size + 1) 2 _ _ _ ks1
  have kz2 := frozen_of_row (((w3.setCell ⟨w.heap.size, 5, none⟩ (.slice ao len co)).setCell ⟨(w.heap.size + 1), 0, none⟩ (.int .i64 id)).setCell ⟨(w.heap.size + 1), 1, none⟩ (.bool lo)) (w.heap.size + 1) 2 _ _ ks1
  have ks2 := heap_setCell_same (((w3.setCell ⟨w.heap.size, 5, none⟩ (.slice ao len co)).setCell ⟨(w.heap.size + 1), 0, none⟩ (.int .i64 id)).setCell ⟨(w.heap.size + 1), 1, none⟩ (.bool lo)) (w.heap.size + 1) 2 _ _ (.bool fa) ks1
  simp only [List.setIfInBounds_toArray, List.set_cons_zero, List.set_cons_succ] at ks2
  simp at kc2
  have kc3 := cell_of_row ((((w3.setCell ⟨w.heap.size, 5, none⟩ (.slice ao len co)).setCell ⟨(w.heap.size + 1), 0, none⟩ (.int .i64 id)).setCell ⟨(w.heap.size + 1), 1, none⟩ (.bool lo)).setCell ⟨(w.heap.size + 1), 2, none⟩ (.bool fa)) (w.heap.size + 1) 3 _ _ _ ks2
  have kz3 := frozen_of_row ((((w3.setCell ⟨w.heap.size, 5, none⟩ (.slice ao len co)).setCell ⟨(w.heap.size + 1), 0, none⟩ (.int .i64 id)).setCell ⟨(w.heap.size + 1), 1, none⟩ (.bool lo)).setCell ⟨(w.heap.size + 1), 2, none⟩ (.bool fa)) (w.heap.size + 1) 3 _ _ ks2
  have ks3 := heap_setCell_same ((((w3.setCell ⟨w.heap.size, 5, none⟩ (.slice ao len co)).setCell ⟨(w.heap.size + 1), 0, none⟩ (.int .i64 id)).setCell ⟨(w.heap.size + 1), 1, none⟩ (.bool lo)).setCell ⟨(w.heap.size + 1), 2, none⟩ (.bool fa)) (w.heap.size + 1) 3 _ _ (.bool re) ks2
  simp only [List.setIfInBounds_toArray, List.set_cons_zero, List.set_cons_succ] at ks3
  simp at kc3
  have kc4 := cell_of_row (((((w3.setCell ⟨w.heap.size, 5, none⟩ (.slice ao len co)).setCell ⟨(w.heap.size + 1), 0, none⟩ (.int .i64 id)).setCell ⟨(w.heap.size + 1), 1, none⟩ (.bool lo)).setCell ⟨(w.heap.size + 1), 2, none⟩ (.bool fa)).setCell ⟨(w.heap.size + 1), 3, none⟩ (.bool re)) (w.heap.size + 1) 4 _ _ _ ks3
  have kz4 := frozen_of_row (((((w3.setCell ⟨w.heap.size, 5, none⟩ (.slice ao len co)).setCell ⟨(w.heap.size + 1), 0, none⟩ (.int .i64 id)).setCell ⟨(w.heap.size + 1), 1, none⟩ (.bool lo)).setCell ⟨(w.heap.size + 1), 2, none⟩ (.bool fa)).setCell ⟨(w.heap.size + 1), 3, none⟩ (.bool re)) (w.heap.size + 1) 4 _ _ ks3
  have ks4 := heap_setCell_same (((((w3.setCell ⟨w.heap.size, 5, none⟩ (.slice ao len co)).setCell ⟨(w.heap.size + 1), 0, none⟩ (.int .i64 id)).setCell ⟨(w.heap.size + 1), 1, none⟩ (.bool lo)).setCell ⟨(w.heap.size + 1), 2, none⟩ (.bool fa)).setCell ⟨(w.heap.size + 1), 3, none⟩ (.bool re)) (w.heap.size + 1) 4 _ _ (.int .i64 sz) ks3
  simp only [List.setIfInBounds_toArray, List.set_cons_zero, List.set_cons_succ] at ks4
  simp at kc4
  have kc5 := cell_of_row ((((((w3.setCell ⟨w.heap.size, 5, none⟩ (.slice ao len co)).setCell ⟨(w.heap.size + 1), 0, none⟩ (.int .i64 id)).setCell ⟨(w.heap.size + 1), 1, none⟩ (.bool lo)).setCell ⟨(w.heap.size + 1), 2, none⟩ (.bool fa)).setCell ⟨(w.heap.size + 1), 3, none⟩ (.bool re)).setCell ⟨(w.heap.size + 1), 4, none⟩ (.int .i64 sz)) (w.heap.size + 1) 5 _ _ _ ks4
  have kz5 := frozen_of_row ((((((w3.setCell ⟨w.heap.size, 5, none⟩ (.slice ao len co)).setCell ⟨(w.heap.size + 1), 0, none⟩ (.int .i64 id)).setCell ⟨(w.heap.size + 1), 1, none⟩ (.bool lo)).setCell ⟨(w.heap.size + 1), 2, none⟩ (.bool fa)).setCell ⟨(w.heap.size + 1), 3, none⟩ (.bool re)).setCell ⟨(w.heap.size + 1), 4, none⟩ (.int .i64 sz)) (w.heap.size + 1) 5 _ _ ks4
  have ks5 := heap_setCell_same ((((((w3.setCell ⟨w.heap.size, 5, none⟩ (.slice ao len co)).setCell ⟨(w.heap.size + 1), 0, none⟩ (.int .i64 id)).setCell ⟨(w.heap.size + 1), 1, none⟩ (.bool lo)).setCell ⟨(w.heap.size + 1), 2, none⟩ (.bool fa)).setCell ⟨(w.heap.size + 1), 3, none⟩ (.bool re)).setCell ⟨(w.heap.size + 1), 4, none⟩ (.int .i64 sz)) (w.heap.size + 1) 5 _ _ (.slice ao len co) ks4
  simp only [List.setIfInBounds_toArray, List.set_cons_zero, List.set_cons_succ] at ks5
  simp at kc5
  exact ⟨ks5, isBytes_tchO hby hT1 (fun x hx => by have := hblk x hx; simp; omega), Tch.below hB hT1 (by simp) (Nat.le_refl _)⟩

set_option maxHeartbeats 8000000 in
set_option maxRecDepth 100000 in
theorem own_blk (f : Fr) (a : Option Addr) (len cap : Nat) (w : World) (hby : IsBytes w a len cap f.dt) (hlen : len ≤ 140737488351232) :
    Calls Tryz.prog 7 #[frameV f.id f.lo f.fa f.re f.sz a len cap] w fun e w' => ∃ a' c', e = .returned (frameV f.id f.lo f.fa f.re f.sz a' len c') ∧ IsBytes w' a' len c' f.dt ∧ (∀ x, a' = some x → w.heap.size ≤ x.block) ∧ Below w.heap.size w w' := by
  obtain ⟨i0, hi, hz0, hz1, hz2⟩ := info_parts info_u8
  obtain ⟨id, lo, fa, re, sz, dt⟩ := f
  simp only at hby ⊢
  have hB1 := below_box w id lo fa re sz a len cap
  have hA1 := heap_alloc_new w (frameC id lo fa re sz a len cap)
  have hB2 : Below (w.alloc (frameC id lo fa re sz a len cap)).heap.size (w.alloc (frameC id lo fa re sz a len cap)) ((w.alloc (frameC id lo fa re sz a len cap)).alloc zC) := (Below.refl _ _).alloc (Nat.le_refl _) _
  have hA2 := heap_alloc_new (w.alloc (frameC id lo fa re sz a len cap)) zC
  have hsz1 : (w.alloc (frameC id lo fa re sz a len cap)).heap.size = w.heap.size + 1 := by simp
  have hsz2 : ((w.alloc (frameC id lo fa re sz a len cap)).alloc zC).heap.size = w.heap.size + 2 := by simp
  have hA1' := (hB2.block w.heap.size (by omega)).trans hA1
  rw [hsz1] at hA2
  have hB := bl2 hB1 hB2
  have hY := isBytes_below hby hB
  unfold frameC zC at hB hA1' hA2 hY hsz2
  unfold frameV
  have HY := Hid.mk hY
  have HB := Hid.mk hB
  have HA1 := Hid.mk hA1'
  have HA2 := Hid.mk hA2
  clear hB1 hA1 hB2 hA2 hsz1 hA1' hB hY hby
  go_enter Tryz.func7, Tryz.ntmps7
  cases a with
  | none =>
    have hl0 := HY.out.2.2.2.1 rfl
    subst hl0
    go_wp2_with fail
    have hd0 : dt = [] := List.eq_nil_of_length_eq_zero HY.out.1
    subst hd0
    have hrow := heap_alloc_new (w.alloc (.cells #[.int .i64 id, .bool lo, .bool fa, .bool re, .int .i64 sz, .slice none 0 0] 24)) (.cells #[.int .i64 id, .bool lo, .bool fa, .bool re, .int .i64 sz, .slice none 0 0] 24)
    have hs1 : (w.alloc (.cells #[.int .i64 id, .bool lo, .bool fa, .bool re, .int .i64 sz, .slice none 0 0] 24)).heap.size = w.heap.size + 1 := by simp
    rw [hs1] at hrow
    have hBe : Below w.heap.size w ((w.alloc (.cells #[.int .i64 id, .bool lo, .bool fa, .bool re, .int .i64 sz, .slice none 0 0] 24)).alloc (.cells #[.int .i64 id, .bool lo, .bool fa, .bool re, .int .i64 sz, .slice none 0 0] 24)) := bl2 ((Below.refl _ _).alloc (Nat.le_refl _) _) ((Below.refl _ _).alloc (Nat.le_refl _) _)
    refine bodyPost_ret (results_cell_row rfl _ _ (w.heap.size + 1) _ _ _ _ rfl hrow Tryz.underlying24 rfl frame_iO) rfl ?_
    exact ⟨none, 0, rfl, ⟨rfl, Nat.le_refl _, Nat.zero_le _, fun _ => rfl, fun x hx => by cases hx⟩, (fun x hx => by cases hx), hBe⟩
  | some x =>
    have hcl : (cellsOf dt).length = len * 1 := by rw [cellsOf_length, HY.out.1, Nat.mul_one]
    have hce := HY.out.2.2.2.2 x rfl
    have hdl := HY.out.1
    go_wp2_with (at_builtin; refine wpList_append_own _ rfl (.const (.slice none 0 0)) (.tmp 4) 22 rfl (w.heap.size + 2) 5 i0 (.int .u8 0) 1 1 Tryz.underlying22 hi hz0 hz1 hz2 rfl (by decide) (.slice none 0 0) 0 [] rfl (World.ownsRow_nil _ _ _ _) x len cap (cellsOf dt) rfl hcl (by intro q u hq; have hq1 : q < dt.length := (by rcases Nat.lt_or_ge q dt.length with hh | hh; exact hh; rw [List.getElem?_eq_none (by rw [cellsOf_length]; exact hh)] at hq; cases hq); rw [hce q (by omega)]; simp [cellsOf, hq1] at hq; rw [← hq]; simp [List.getD, hq1]) (by intro u hu; simp [cellsOf] at hu; obtain ⟨c, -, rfl⟩ := hu; rfl) (by unfold maxLen; omega) (by omega) (by omega) ?_; intro v1 w3 hown1 hgrow1 _; have hown2 : w3.ownsRow (w.heap.size + 2) 5 1 v1 len (cellsOf dt) := (by simpa using hown1); have hb3 := Below.grown (Below.refl (w.heap.size + 2) _) hgrow1 (by simp) (fun q hq => by cases hq); obtain ⟨ao, co, rfl, hby3, hblk⟩ := isBytes_ownO hown2; have r1 := (hb3.block w.heap.size (by omega)).trans HA1.out; have r2 := (hb3.block (w.heap.size + 1) (by omega)).trans HA2.out; have hBw := HB.out.trans (hb3.mono (Nat.le_add_right _ _)); have c0 := cell_of_row w3 w.heap.size 0 _ _ _ r1; simp at c0; have c1 := cell_of_row w3 w.heap.size 1 _ _ _ r1; simp at c1; have c2 := cell_of_row w3 w.heap.size 2 _ _ _ r1; simp at c2; have c3 := cell_of_row w3 w.heap.size 3 _ _ _ r1; simp at c3; have c4 := cell_of_row w3 w.heap.size 4 _ _ _ r1; simp at c4; have c5 := cell_of_row w3 w.heap.size 5 _ _ _ r1; simp at c5; have z5 := frozen_of_row w3 w.heap.size 5 _ _ r1; have s5 := cell_of_row _ w.heap.size 5 _ _ _ (heap_setCell_same w3 w.heap.size 5 _ _ (.slice ao len co) r1); simp at s5; have b0 := cell_of_row w3 (w.heap.size + 1) 0 _ _ _ r2; simp at b0; have f0 := frozen_of_row w3 (w.heap.size + 1) 0 _ _ r2; have b1 := cell_of_row w3 (w.heap.size + 1) 1 _ _ _ r2; simp at b1; have f1 := frozen_of_row w3 (w.heap.size + 1) 1 _ _ r2; have b2 := cell_of_row w3 (w.heap.size + 1) 2 _ _ _ r2; simp at b2; have f2 := frozen_of_row w3 (w.heap.size + 1) 2 _ _ r2; have b3 := cell_of_row w3 (w.heap.size + 1) 3 _ _ _ r2; simp at b3; have f3 := frozen_of_row w3 (w.heap.size + 1) 3 _ _ r2; have b4 := cell_of_row w3 (w.heap.size + 1) 4 _ _ _ r2; simp at b4; have f4 := frozen_of_row w3 (w.heap.size + 1) 4 _ _ r2; have b5 := cell_of_row w3 (w.heap.size + 1) 5 _ _ _ r2; simp at b5; have f5 := frozen_of_row w3 (w.heap.size + 1) 5 _ _ r2; have HE := Hid.mk (own_end id lo fa re sz (some x) len cap ao co dt w w3 hBw r1 r2 hby3 hblk); have HBK := Hid.mk hblk; clear hown1 hown2 hb3 hby3 hblk r1 r2 hBw hgrow1 hce hcl hdl)
    obtain ⟨e1, e2, e3⟩ := HE.out
    refine bodyPost_ret (results_cell_row rfl _ _ (w.heap.size + 1) _ _ _ _ rfl e1 Tryz.underlying24 rfl frame_iO) rfl ?_
    exact ⟨ao, co, rfl, e2, fun y hy => by have := HBK.out y hy; omega, e3⟩
theorem own_any (f : Fr) (a : Option Addr) (len cap : Nat) (w : World) (hby : IsBytes w a len cap f.dt) (hlen : len ≤ 140737488351232) :
    Calls Tryz.prog 7 #[frameV f.id f.lo f.fa f.re f.sz a len cap] w fun e w' => ∃ a' c', e = .returned (frameV f.id f.lo f.fa f.re f.sz a' len c') ∧ IsBytes w' a' len c' f.dt ∧ Below w.heap.size w w' :=
  (own_blk f a len cap w hby hlen).mono fun _ _ ⟨a', c', h1, h2, _, h4⟩ => ⟨a', c', h1, h2, h4⟩
end Bw
end Go.Proofs.YtemohjamcdkcmaaGreatDoor
namespace Go.Proofs.YtemohjamcdkcmaaGreatDoor
open Go.ChangeShapes Go.WideShapes Go.ChangeAt Go.RowKit
namespace Bw
open Bm Cm Classical

theorem str_same {A B : ByteArray} {x : List UInt8} (hA : A.data.toList = x) (hB : B.data.toList = x) : (A.toList == B.toList) = true := by
  rw [ByteArray.toList_eq, ByteArray.toList_eq, hA, hB]; simp
set_option maxHeartbeats 16000000 in
theorem frameBits_bad (f : Fr) (a : Option Addr) (len cap : Nat) (w : World) (hS : SizesAt w) (hR : RulesAt w) (hby : IsBytes w a len cap f.dt) (hlen : len ≤ 140737488351232) (hE : frE f ≠ 0) :
    Calls Tryz.prog 3 #[frameV f.id f.lo f.fa f.re f.sz a len cap] w fun e w' => e = .returned (.bool true) ∧ Below w.heap.size w w' := by
  have hmx : len ≤ maxLen := by unfold maxLen; omega
  have hdl : f.dt.length = len := hby.1
  have hB := below_box w f.id f.lo f.fa f.re f.sz a len cap
  have hK := FrAt.box w f.id f.lo f.fa f.re f.sz a len cap
  have hY := isBytes_below hby hB
  have a1 := own_any f a len cap _ hY hlen
  have a2 := fun (ao : Option Addr) (co : Nat) W h1 => frName_any f ao len co W h1 hmx hdl
  have a3 := fun (ao : Option Addr) (co : Nat) W h1 h2 h3 => frBits_any f ao len co W h1 h2 h3
  have a4 := fun W => checkFrame_any f.id f.lo f.fa f.re f.sz a len cap W (by omega)
  have a5 := fun W h1 h2 => framed_any W h1 h2
  have a6 := fun W h1 => frCheck_any f.id f.lo f.fa f.re f.sz a len cap W h1 hmx
  have hEn : frEn f.id f.lo f.fa f.re f.sz len = frE f := by unfold frE; rw [hdl]
  rw [hEn] at a4 a6
  have a7 := fun (ao : Option Addr) (co : Nat) W h1 h2 => sameFrame_true f ao a len co len cap W h1 h2
  have a8 := fun (ao : Option Addr) (co : Nat) W h1 h2 => same_any f f a ao len cap len co W h1 h2
  have hsm : decide (f = f) = true := by simp
  rw [hsm] at a8
  have hna : nameA f = .tuple #[.string ⟨#[]⟩, .int .i64 (frE f)] := by unfold nameA; rw [if_neg hE]
  have hba : bitsA f = .tuple #[.string ⟨#[]⟩, .int .i64 (frE f)] := by unfold bitsA; rw [if_neg hE]
  rw [hna] at a2
  rw [hba] at a3
  have hne : (frE f != 0) = true := by simpa using hE
  have HA1 := Hid.mk a1
  have HA2 := Hid.mk a2
  have HA3 := Hid.mk a3
  have HA4 := Hid.mk a4
  have HA5 := Hid.mk a5
  have HA6 := Hid.mk a6
  have HA7 := Hid.mk a7
  have HA8 := Hid.mk a8
  have HB := Hid.mk hB
  have HK := Hid.mk hK
  have HY := Hid.mk hY
  have HS := Hid.mk hS
  have HR := Hid.mk hR
  unfold frameC at HA1 HB HK HY
  unfold frameV at HA1 HA2 HA3 HA4 HA6 HA7 HA8 ⊢
  clear a1 a2 a3 a4 a5 a6 a7 a8 hB hK hY hS hR hby hmx hdl hEn hsm hlen
  clear hE hna hba
  generalize frE f = ce at *
  go_enter Tryz.func3, Tryz.ntmps3
  go_wp2_with fail
  refine HA1.out.mono ?_
  rintro e w1 ⟨ao, co, rfl, hbo, hb1⟩
  have hb2 : Below w1.heap.size w1 (w1.alloc (.cells #[.int .i64 f.id, .bool f.lo, .bool f.fa, .bool f.re, .int .i64 f.sz, .slice ao len co] 24)) := (Below.refl _ _).alloc (Nat.le_refl _) _
  have hb12 := bl2 hb1 hb2
  have HB2 := Hid.mk (bl2 HB.out hb12)
  have HKf2 := Hid.mk (HK.out.kept hb12)
  have HYf2 := Hid.mk (isBytes_below HY.out hb12)
  have HKo2 := Hid.mk (FrAt.box w1 f.id f.lo f.fa f.re f.sz ao len co)
  have HYo2 := Hid.mk (isBytes_below hbo hb2)
  unfold frameC at HKo2
  clear hb1 hb2 hb12 hbo HB HK HY HA1
  go_wp2_with fail
  refine (HA2.out _ _ _ (HS.out.kept HB2.out)).mono ?_
  rintro e w3 ⟨rfl, hb3⟩
  have HB3 := Hid.mk (bl2 HB2.out hb3)
  have HKf3 := Hid.mk (HKf2.out.kept hb3)
  have HYf3 := Hid.mk (isBytes_below HYf2.out hb3)
  have HKo3 := Hid.mk (HKo2.out.kept hb3)
  have HYo3 := Hid.mk (isBytes_below HYo2.out hb3)
  obtain ⟨k0, k1, k2, k3, k4, k5⟩ := HKo3.out
  clear hb3 HB2 HKf2 HYf2 HKo2 HYo2 HA2
  go_wp2_with fail
  refine (HA3.out _ _ _ (HS.out.kept HB3.out) (HR.out.kept HB3.out) HYo3.out).mono ?_
  rintro e w4 ⟨rfl, hb4⟩
  have HB4 := Hid.mk (bl2 HB3.out hb4)
  have HKf4 := Hid.mk (HKf3.out.kept hb4)
  have HYf4 := Hid.mk (isBytes_below HYf3.out hb4)
  have HKo4 := Hid.mk (HKo3.out.kept hb4)
  have HYo4 := Hid.mk (isBytes_below HYo3.out hb4)
  obtain ⟨j0, j1, j2, j3, j4, j5⟩ := HKf4.out
  clear hb4 HB3 HKf3 HYf3 HKo3 HYo3 HA3 k0 k1 k2 k3 k4 k5
  go_wp2_with fail
  refine (HA4.out _).mono ?_
  rintro e w5 ⟨rfl, hb5⟩
  have HB5 := Hid.mk (bl2 HB4.out hb5)
  have HKf5 := Hid.mk (HKf4.out.kept hb5)
  have HYf5 := Hid.mk (isBytes_below HYf4.out hb5)
  have HKo5 := Hid.mk (HKo4.out.kept hb5)
  have HYo5 := Hid.mk (isBytes_below HYo4.out hb5)
  clear hb5 HB4 HKf4 HYf4 HKo4 HYo4 HA4 j0 j1 j2 j3 j4 j5
  go_wp2_with fail
  refine (HA5.out _ (HS.out.kept HB5.out) (HR.out.kept HB5.out)).mono ?_
  rintro e w6 ⟨rfl, hb6⟩
  have HB6 := Hid.mk (bl2 HB5.out hb6)
  have HKf6 := Hid.mk (HKf5.out.kept hb6)
  have HYf6 := Hid.mk (isBytes_below HYf5.out hb6)
  have HKo6 := Hid.mk (HKo5.out.kept hb6)
  have HYo6 := Hid.mk (isBytes_below HYo5.out hb6)
  obtain ⟨j0, j1, j2, j3, j4, j5⟩ := HKf6.out
  clear hb6 HB5 HKf5 HYf5 HKo5 HYo5 HA5
  go_wp2_with fail
  refine (HA6.out _ (HS.out.kept HB6.out)).mono ?_
  rintro e w7 ⟨rfl, hb7⟩
  have HB7 := Hid.mk (bl2 HB6.out hb7)
  have HKf7 := Hid.mk (HKf6.out.kept hb7)
  have HYf7 := Hid.mk (isBytes_below HYf6.out hb7)
  have HKo7 := Hid.mk (HKo6.out.kept hb7)
  have HYo7 := Hid.mk (isBytes_below HYo6.out hb7)
  clear hb7 HB6 HKf6 HYf6 HKo6 HYo6 HA6 j0 j1 j2 j3 j4 j5
  obtain ⟨j0, j1, j2, j3, j4, j5⟩ := HKf7.out
  obtain ⟨k0, k1, k2, k3, k4, k5⟩ := HKo7.out
  go_wp2_with fail
  refine (HA7.out _ _ _ HYo7.out HYf7.out).mono ?_
  rintro e w71 ⟨rfl, hb71⟩
  have HB71 := Hid.mk (bl2 HB7.out hb71)
  have HKf71 := Hid.mk (HKf7.out.kept hb71)
  have HYf71 := Hid.mk (isBytes_below HYf7.out hb71)
  have HKo71 := Hid.mk (HKo7.out.kept hb71)
  have HYo71 := Hid.mk (isBytes_below HYo7.out hb71)
  clear hb71 HB7 HKf7 HYf7 HKo7 HYo7 HA7 j0 j1 j2 j3 j4 j5 k0 k1 k2 k3 k4 k5
  obtain ⟨j0, j1, j2, j3, j4, j5⟩ := HKf71.out
  obtain ⟨k0, k1, k2, k3, k4, k5⟩ := HKo71.out
  go_wp2_with fail
  refine (HA8.out _ _ _ HYf71.out HYo71.out).mono ?_
  rintro e w8 ⟨rfl, hb8⟩
  have HB8 := Hid.mk (bl2 HB71.out hb8)
  have HKf8 := Hid.mk (HKf71.out.kept hb8)
  have HYf8 := Hid.mk (isBytes_below HYf71.out hb8)
  clear hb8 HB71 HKf71 HYf71 HKo71 HYo71 HA8 j0 j1 j2 j3 j4 j5 k0 k1 k2 k3 k4 k5
  go_wp2_with fail
  go_ret
  exact ⟨rfl, HB8.out⟩
set_option maxHeartbeats 16000000 in
theorem frameBits_ok (f : Fr) (a : Option Addr) (len cap : Nat) (w : World) (hS : SizesAt w) (hR : RulesAt w) (hD : w.cell? ⟨5, 1, none⟩ = some (.int .u8 1)) (hby : IsBytes w a len cap f.dt) (hlen : len ≤ 140737488351232) (hE : frE f = 0) :
    Calls Tryz.prog 3 #[frameV f.id f.lo f.fa f.re f.sz a len cap] w fun e w' => e = .returned (.bool true) ∧ Below w.heap.size w w' := by
  have hmx : len ≤ maxLen := by unfold maxLen; omega
  have hdl : f.dt.length = len := hby.1
  have hB := below_box w f.id f.lo f.fa f.re f.sz a len cap
  have hK := FrAt.box w f.id f.lo f.fa f.re f.sz a len cap
  have hY := isBytes_below hby hB
  have a1 := own_any f a len cap _ hY hlen
  have a2 := fun (ao : Option Addr) (co : Nat) W h1 => frName_any f ao len co W h1 hmx hdl
  have a3 := fun (ao : Option Addr) (co : Nat) W h1 h2 h3 => frBits_any f ao len co W h1 h2 h3
  have a4 := fun W => checkFrame_any f.id f.lo f.fa f.re f.sz a len cap W (by omega)
  have a5 := fun W h1 h2 => framed_any W h1 h2
  have a6 := fun W h1 => frCheck_any f.id f.lo f.fa f.re f.sz a len cap W h1 hmx
  have hEn : frEn f.id f.lo f.fa f.re f.sz len = frE f := by unfold frE; rw [hdl]
  rw [hEn] at a4 a6
  have a7 := fun (ao : Option Addr) (co : Nat) W h1 h2 => sameFrame_true f ao a len co len cap W h1 h2
  have a8 := fun (ao : Option Addr) (co : Nat) W h1 h2 => same_any f f a ao len cap len co W h1 h2
  have hsm : decide (f = f) = true := by simp
  rw [hsm] at a8
  have hna : nameA f = .tuple #[.string ⟨(nameL f).toArray⟩, .int .i64 0] := by unfold nameA; rw [if_pos hE]
  have hba : bitsA f = .tuple #[.string ⟨(bitsL f).toArray⟩, .int .i64 0] := by unfold bitsA; rw [if_pos hE]
  rw [hna] at a2
  rw [hba] at a3
  rw [hE] at a4 a6
  obtain ⟨q1, q2, -⟩ := frE_ok hE
  have a9 := fun W hW => nameOf_any f a len cap W hW q1 q2
  have a10 := fun W hW hB => bitsOf_any f a len cap W hW hE hB
  generalize ByteArray.mk (nameL f).toArray = NM at *
  generalize ByteArray.mk (bitsL f).toArray = BT at *
  have HA9 := Hid.mk a9
  have HA10 := Hid.mk a10
  have HD := Hid.mk hD
  unfold frameV at HA9 HA10
  have e1 : (NM.toList == NM.toList) = true := by simp
  have e2 : (BT.toList == BT.toList) = true := by simp
  have HA1 := Hid.mk a1
  have HA2 := Hid.mk a2
  have HA3 := Hid.mk a3
  have HA4 := Hid.mk a4
  have HA5 := Hid.mk a5
  have HA6 := Hid.mk a6
  have HA7 := Hid.mk a7
  have HA8 := Hid.mk a8
  have HB := Hid.mk hB
  have HK := Hid.mk hK
  have HY := Hid.mk hY
  have HS := Hid.mk hS
  have HR := Hid.mk hR
  unfold frameC at HA1 HB HK HY
  unfold frameV at HA1 HA2 HA3 HA4 HA6 HA7 HA8 ⊢
  clear a1 a2 a3 a4 a5 a6 a7 a8 hB hK hY hS hR hby hmx hdl hEn hsm hlen
  clear hE hna hba a9 a10 hD q1 q2
  go_enter Tryz.func3, Tryz.ntmps3
  go_wp2_with fail
  refine HA1.out.mono ?_
  rintro e w1 ⟨ao, co, rfl, hbo, hb1⟩
  have hb2 : Below w1.heap.size w1 (w1.alloc (.cells #[.int .i64 f.id, .bool f.lo, .bool f.fa, .bool f.re, .int .i64 f.sz, .slice ao len co] 24)) := (Below.refl _ _).alloc (Nat.le_refl _) _
  have hb12 := bl2 hb1 hb2
  have HB2 := Hid.mk (bl2 HB.out hb12)
  have HKf2 := Hid.mk (HK.out.kept hb12)
  have HYf2 := Hid.mk (isBytes_below HY.out hb12)
  have HKo2 := Hid.mk (FrAt.box w1 f.id f.lo f.fa f.re f.sz ao len co)
  have HYo2 := Hid.mk (isBytes_below hbo hb2)
  unfold frameC at HKo2
  clear hb1 hb2 hb12 hbo HB HK HY HA1
  go_wp2_with fail
  refine (HA2.out _ _ _ (HS.out.kept HB2.out)).mono ?_
  rintro e w3 ⟨rfl, hb3⟩
  have HB3 := Hid.mk (bl2 HB2.out hb3)
  have HKf3 := Hid.mk (HKf2.out.kept hb3)
  have HYf3 := Hid.mk (isBytes_below HYf2.out hb3)
  have HKo3 := Hid.mk (HKo2.out.kept hb3)
  have HYo3 := Hid.mk (isBytes_below HYo2.out hb3)
  obtain ⟨k0, k1, k2, k3, k4, k5⟩ := HKo3.out
  clear hb3 HB2 HKf2 HYf2 HKo2 HYo2 HA2
  go_wp2_with fail
  refine (HA3.out _ _ _ (HS.out.kept HB3.out) (HR.out.kept HB3.out) HYo3.out).mono ?_
  rintro e w4 ⟨rfl, hb4⟩
  have HB4 := Hid.mk (bl2 HB3.out hb4)
  have HKf4 := Hid.mk (HKf3.out.kept hb4)
  have HYf4 := Hid.mk (isBytes_below HYf3.out hb4)
  have HKo4 := Hid.mk (HKo3.out.kept hb4)
  have HYo4 := Hid.mk (isBytes_below HYo3.out hb4)
  obtain ⟨j0, j1, j2, j3, j4, j5⟩ := HKf4.out
  clear hb4 HB3 HKf3 HYf3 HKo3 HYo3 HA3 k0 k1 k2 k3 k4 k5
  go_wp2_with fail
  refine (HA4.out _).mono ?_
  rintro e w5 ⟨rfl, hb5⟩
  have HB5 := Hid.mk (bl2 HB4.out hb5)
  have HKf5 := Hid.mk (HKf4.out.kept hb5)
  have HYf5 := Hid.mk (isBytes_below HYf4.out hb5)
  have HKo5 := Hid.mk (HKo4.out.kept hb5)
  have HYo5 := Hid.mk (isBytes_below HYo4.out hb5)
  clear hb5 HB4 HKf4 HYf4 HKo4 HYo4 HA4 j0 j1 j2 j3 j4 j5
  go_wp2_with fail
  refine (HA5.out _ (HS.out.kept HB5.out) (HR.out.kept HB5.out)).mono ?_
  rintro e w6 ⟨rfl, hb6⟩
  have HB6 := Hid.mk (bl2 HB5.out hb6)
  have HKf6 := Hid.mk (HKf5.out.kept hb6)
  have HYf6 := Hid.mk (isBytes_below HYf5.out hb6)
  have HKo6 := Hid.mk (HKo5.out.kept hb6)
  have HYo6 := Hid.mk (isBytes_below HYo5.out hb6)
  obtain ⟨j0, j1, j2, j3, j4, j5⟩ := HKf6.out
  clear hb6 HB5 HKf5 HYf5 HKo5 HYo5 HA5
  go_wp2_with fail
  refine (HA6.out _ (HS.out.kept HB6.out)).mono ?_
  rintro e w7 ⟨rfl, hb7⟩
  have HB7 := Hid.mk (bl2 HB6.out hb7)
  have HKf7 := Hid.mk (HKf6.out.kept hb7)
  have HYf7 := Hid.mk (isBytes_below HYf6.out hb7)
  have HKo7 := Hid.mk (HKo6.out.kept hb7)
  have HYo7 := Hid.mk (isBytes_below HYo6.out hb7)
  clear hb7 HB6 HKf6 HYf6 HKo6 HYo6 HA6 j0 j1 j2 j3 j4 j5
  obtain ⟨j0, j1, j2, j3, j4, j5⟩ := HKf7.out
  obtain ⟨k0, k1, k2, k3, k4, k5⟩ := HKo7.out
  go_wp2_with fail
  refine (HA7.out _ _ _ HYo7.out HYf7.out).mono ?_
  rintro e w71 ⟨rfl, hb71⟩
  have HB71 := Hid.mk (bl2 HB7.out hb71)
  have HKf71 := Hid.mk (HKf7.out.kept hb71)
  have HYf71 := Hid.mk (isBytes_below HYf7.out hb71)
  have HKo71 := Hid.mk (HKo7.out.kept hb71)
  have HYo71 := Hid.mk (isBytes_below HYo7.out hb71)
  clear hb71 HB7 HKf7 HYf7 HKo7 HYo7 HA7 j0 j1 j2 j3 j4 j5 k0 k1 k2 k3 k4 k5
  obtain ⟨j0, j1, j2, j3, j4, j5⟩ := HKf71.out
  obtain ⟨k0, k1, k2, k3, k4, k5⟩ := HKo71.out
  go_wp2_with fail
  refine (HA8.out _ _ _ HYf71.out HYo71.out).mono ?_
  rintro e w8 ⟨rfl, hb8⟩
  have HB8 := Hid.mk (bl2 HB71.out hb8)
  have HKf8 := Hid.mk (HKf71.out.kept hb8)
  have HYf8 := Hid.mk (isBytes_below HYf71.out hb8)
  clear hb8 HB71 HKf71 HYf71 HKo71 HYo71 HA8 j0 j1 j2 j3 j4 j5 k0 k1 k2 k3 k4 k5
  obtain ⟨n0, n1, n2, n3, n4, n5⟩ := HKf8.out
  go_wp2_with fail
  refine (HA9.out _ (cell_kept HB8.out HD.out)).mono ?_
  rintro e w9 ⟨rfl, hb9⟩
  have HB9 := Hid.mk (bl2 HB8.out hb9)
  obtain ⟨p0, p1, p2, p3, p4, p5⟩ := HKf8.out.kept hb9
  have HYf9 := Hid.mk (isBytes_below HYf8.out hb9)
  clear hb9 HB8 HKf8 HYf8 n0 n1 n2 n3 n4 n5 HA9
  go_wp2_with fail
  refine (HA10.out _ (cell_kept HB9.out HD.out) HYf9.out).mono ?_
  rintro e w10 ⟨rfl, hb10⟩
  have HB10 := Hid.mk (bl2 HB9.out hb10)
  clear hb10 HB9 HYf9 p0 p1 p2 p3 p4 p5 HA10
  go_wp2_with fail
  go_ret
  exact ⟨rfl, HB10.out⟩
end Bw
namespace frameBits
open Bw
theorem walk (id : Int) (lo fa re : Bool) (sz : Int) (a : Option Addr) (len cap : Nat) (zs : List Int) (w : World) (_ : (Lit.int .i64 id).wf = true) (_ : (Lit.int .i64 sz).wf = true) (hz : IsRow .u8 w a len cap zs) (hlen : len ≤ 140737488351232) (hL : laidMet Tryz.prog Rows.frameBitsRow.laid w) :
    Calls Tryz.prog 3 #[frameV id lo fa re sz a len cap] w fun e w' => e = .returned (.bool true) ∧ Below w.heap.size w w' := by
  have hS := sizes_of hL (by simp [Rows.frameBitsRow])
  have hR := rules_of hL (by simp [Rows.frameBitsRow])
  have hD := bruijn_of hL (by simp [Rows.frameBitsRow])
  obtain ⟨l, hl⟩ := isBytes_of_row hz
  by_cases hE : frE ⟨id, lo, fa, re, sz, l⟩ = 0
  · exact frameBits_ok ⟨id, lo, fa, re, sz, l⟩ a len cap w hS hR hD hl hlen hE
  · exact frameBits_bad ⟨id, lo, fa, re, sz, l⟩ a len cap w hS hR hl hlen hE
end frameBits
end Go.Proofs.YtemohjamcdkcmaaGreatDoor
