/- Joined out of our texts: FrRead9, BackRead, FrBack, ConvRow, WireNoiseM, BytesApart. -/
import Derived.Test.YthdhhmflfdbkhaaGreatDoorLawWireNoisePAC
import Derived.Test.YthdhhmflfdbkhaaGreatDoorFrameOpen
import Derived.Test.YthdhhmflfdbkhaaGreatDoorLawWireNoisePAB
import Derived.Test.YthdhhmflfdbkhaaGreatDoorLawWireNoiseRAF
import Derived.Test.YthdhhmflfdbkhaaGreatDoorBase8
import Derived.Laws.IdiomStrings
import Derived.Laws.BitsAllLaws
import Derived.Test.YthdhhmflfdbkhaaGreatDoorStuffMath
import Derived.Test.YthdhhmflfdbkhaaGreatDoorLawWireNoisePAA
/- What frame.Read answers of any text. -/
namespace Go.Proofs.YthdhhmflfdbkhaaGreatDoor
open Go.ChangeShapes Go.WideShapes Go.ChangeAt Go.RowKit
namespace Bw
open Bm Cm Go.Sort

theorem frame_i : (Tryz.prog.info? 24).map (·.size) = some 6 := by kernel_rfl
/-- what Read hands back: the frame out of its variable, and two numbers -/
theorem read_results (tmps : Array Value) (w : World) (g : Nat) (cs : Array Value) (x y : Value) (hp : tmps.getD 2 undef = .pointer (some ⟨g, 0, none⟩)) (hx : tmps.getD 3 undef = x) (hy : tmps.getD 4 undef = y) (h : w.heap[g]? = some (.cells cs 24 (0, 0))) (hs : cs.size = 6) :
    (results Tryz.f6 tmps).run Tryz.prog w = .ok (.tuple #[.agg cs, x, y]) w := by
  have hl := run_loadVar_row (P := Tryz.prog) w g 24 24 cs (0, 0) _ h Tryz.underlying24 rfl (by rw [frame_i, hs])
  have hp' : tmps[2]?.getD undef = .pointer (some ⟨g, 0, none⟩) := by simpa using hp
  have hx' : tmps[3]?.getD undef = x := by simpa using hx
  have hy' : tmps[4]?.getD undef = y := by simpa using hy
  simp [results, hp', hx', hy', asAddr, hl]
def zeroC : Obj := .cells #[.int .i64 0, .bool false, .bool false, .bool false, .int .i64 0, .slice none 0 0] 24
set_option maxHeartbeats 4000000 in
theorem read_bad (b : ByteArray) (w : World) (hs : b.size ≤ maxLen) (hc : checkE b.data.toList ≠ 0) :
    Calls Tryz.prog 6 #[.string b] w fun e w' => e = .returned (.tuple #[frameV 0 false false false 0 none 0 0, .int .i64 0, .int .i64 (checkE b.data.toList)]) ∧ Below w.heap.size w w' := by
  have h1 := fun W => check_any b W hs
  have hne : (checkE b.data.toList != 0) = true := by simpa using hc
  generalize checkE b.data.toList = ce at *
  have hB0 : Below w.heap.size w (w.alloc zeroC) := (Below.refl _ _).alloc (Nat.le_refl _) _
  have hA0 := heap_alloc_new w zeroC
  unfold zeroC at hB0 hA0
  have H1 := Hid.mk h1
  clear h1 hc hs
  go_enter Tryz.func6, Tryz.ntmps6
  go_wp2_with fail
  refine (H1.out _).mono ?_
  rintro e w1 ⟨rfl, hb1⟩
  have hB1 := bl2 hB0 hb1
  have hA1 := hb1.block w.heap.size (by simp)
  rw [hA0] at hA1
  have HB1 := Hid.mk hB1
  clear hB0 hA0 hb1 hB1 H1
  have kc0 := cell_of_row w1 w.heap.size 0 _ _ _ hA1
  have kz0 := frozen_of_row w1 w.heap.size 0 _ _ hA1
  have ks0 := heap_setCell_same w1 w.heap.size 0 _ _ (.int .i64 0) hA1
  simp only [List.setIfInBounds_toArray, List.set_cons_zero] at ks0
  simp at kc0
  have kc1 := cell_of_row (w1.setCell ⟨w.heap.size, 0, none⟩ (.int .i64 0)) w.heap.size 1 _ _ _ ks0
  have kz1 := frozen_of_row (w1.setCell ⟨w.heap.size, 0, none⟩ (.int .i64 0)) w.heap.size 1 _ _ ks0
  have ks1 := heap_setCell_same (w1.setCell ⟨w.heap.size, 0, none⟩ (.int .i64 0)) w.heap.size 1 _ _ (.bool false) ks0
  simp only [List.setIfInBounds_toArray, List.set_cons_zero, List.set_cons_succ] at ks1
  simp at kc1
  have kc2 := cell_of_row ((w1.setCell ⟨w.heap.size, 0, none⟩ (.int .i64 0)).setCell ⟨w.heap.size, 1, none⟩ (.bool false)) w.heap.size 2 _ _ _ ks1
  have kz2 := frozen_of_row ((w1.setCell ⟨w.heap.size, 0, none⟩ (.int .i64 0)).setCell ⟨w.heap.size, 1, none⟩ (.bool false)) w.heap.size 2 _ _ ks1
  have ks2 := heap_setCell_same ((w1.setCell ⟨w.heap.size, 0, none⟩ (.int .i64 0)).setCell ⟨w.heap.size, 1, none⟩ (.bool false)) w.heap.size 2 _ _ (.bool false) ks1
  simp only [List.setIfInBounds_toArray, List.set_cons_zero, List.set_cons_succ] at ks2
  simp at kc2
  have kc3 := cell_of_row (((w1.setCell ⟨w.heap.size, 0, none⟩ (.int .i64 0)).setCell ⟨w.heap.size, 1, none⟩ (.bool false)).setCell ⟨w.heap.size, 2, none⟩ (.bool false)) w.heap.size 3 _ _ _ ks2
  have kz3 := frozen_of_row (((w1.setCell ⟨w.heap.size, 0, none⟩ (.int .i64 0)).setCell ⟨w.heap.size, 1, none⟩ (.bool false)).setCell ⟨w.heap.size, 2, none⟩ (.bool false)) w.heap.size 3 _ _ ks2
  have ks3 := heap_setCell_same (((w1.setCell ⟨w.heap.size, 0, none⟩ (.int .i64 0)).setCell ⟨w.heap.size, 1, none⟩ (.bool false)).setCell ⟨w.heap.size, 2, none⟩ (.bool false)) w.heap.size 3 _ _ (.bool false) ks2
  simp only [List.setIfInBounds_toArray, List.set_cons_zero, List.set_cons_succ] at ks3
  simp at kc3
  have kc4 := cell_of_row ((((w1.setCell ⟨w.heap.size, 0, none⟩ (.int .i64 0)).setCell ⟨w.heap.size, 1, none⟩ (.bool false)).setCell ⟨w.heap.size, 2, none⟩ (.bool false)).setCell ⟨w.heap.size, 3, none⟩ (.bool false)) w.heap.size 4 _ _ _ ks3
  have kz4 := frozen_of_row ((((w1.setCell ⟨w.heap.size, 0, none⟩ (.int .i64 0)).setCell ⟨w.heap.size, 1, none⟩ (.bool false)).setCell ⟨w.heap.size, 2, none⟩ (.bool false)).setCell ⟨w.heap.size, 3, none⟩ (.bool false)) w.heap.size 4 _ _ ks3
  have ks4 := heap_setCell_same ((((w1.setCell ⟨w.heap.size, 0, none⟩ (.int .i64 0)).setCell ⟨w.heap.size, 1, none⟩ (.bool false)).setCell ⟨w.heap.size, 2, none⟩ (.bool false)).setCell ⟨w.heap.size, 3, none⟩ (.bool false)) w.heap.size 4 _ _ (.int .i64 0) ks3
  simp only [List.setIfInBounds_toArray, List.set_cons_zero, List.set_cons_succ] at ks4
  simp at kc4
  have kc5 := cell_of_row (((((w1.setCell ⟨w.heap.size, 0, none⟩ (.int .i64 0)).setCell ⟨w.heap.size, 1, none⟩ (.bool false)).setCell ⟨w.heap.size, 2, none⟩ (.bool false)).setCell ⟨w.heap.size, 3, none⟩ (.bool false)).setCell ⟨w.heap.size, 4, none⟩ (.int .i64 0)) w.heap.size 5 _ _ _ ks4
  have kz5 := frozen_of_row (((((w1.setCell ⟨w.heap.size, 0, none⟩ (.int .i64 0)).setCell ⟨w.heap.size, 1, none⟩ (.bool false)).setCell ⟨w.heap.size, 2, none⟩ (.bool false)).setCell ⟨w.heap.size, 3, none⟩ (.bool false)).setCell ⟨w.heap.size, 4, none⟩ (.int .i64 0)) w.heap.size 5 _ _ ks4
  have ks5 := heap_setCell_same (((((w1.setCell ⟨w.heap.size, 0, none⟩ (.int .i64 0)).setCell ⟨w.heap.size, 1, none⟩ (.bool false)).setCell ⟨w.heap.size, 2, none⟩ (.bool false)).setCell ⟨w.heap.size, 3, none⟩ (.bool false)).setCell ⟨w.heap.size, 4, none⟩ (.int .i64 0)) w.heap.size 5 _ _ (.slice none 0 0) ks4
  simp only [List.setIfInBounds_toArray, List.set_cons_zero, List.set_cons_succ] at ks5
  simp at kc5
  have HFIN := Hid.mk ks5
  go_wp2_with fail
  refine bodyPost_ret (read_results _ _ w.heap.size _ _ _ rfl rfl rfl HFIN.out rfl) rfl ?_
  refine ⟨rfl, ?_⟩
  exact Tch.below HB1.out ((((((((Tch.refl [w.heap.size] w1).setK (by simp) _ _).setK (by simp) _ _).setK (by simp) _ _).setK (by simp) _ _).setK (by simp) _ _).setK (by simp) _ _)) (by simp) (Nat.le_refl _)
def rdZ : Obj := .cells #[.string ⟨#[]⟩, .int .i64 0, .int .i64 0, .string ⟨#[]⟩, .int .i64 0, .bool false, .bool false, .bool false, .int .i64 0, .slice none 0 0] 53
theorem isBytes_tch {gs : List Nat} {w w' : World} {a : Option Addr} {len cap : Nat} {l : List UInt8} (hb : IsBytes w a len cap l) (ht : Tch gs w w') (hg : ∀ x, a = some x → x.block ∉ gs) : IsBytes w' a len cap l := by
  refine ⟨hb.1, hb.2.1, hb.2.2.1, hb.2.2.2.1, fun x hx i hi => ?_⟩
  have hv := hb.2.2.2.2 x hx i hi
  have hlt := block_lt_of_cell hv
  have hblk : (x.add i).block = x.block := by unfold Addr.add; split <;> rfl
  unfold World.cell? at hv ⊢
  rw [ht.block _ hlt (by rw [hblk]; exact hg x hx)]
  exact hv
theorem heap_drew (w : World) : w.drew.heap = w.heap := rfl
theorem isBytes_drew {w : World} {a : Option Addr} {len cap : Nat} {l : List UInt8} (h : IsBytes w a len cap l) : IsBytes w.drew a len cap l := h
theorem row_drew {w : World} {g : Nat} {o : Obj} (h : w.heap[g]? = some o) : w.drew.heap[g]? = some o := h
theorem fixed_inv {b : List UInt8} {S : RS} {n : Nat} (h : Inv b S n) (k : Nat) : Inv b (fixedP b S k) n := by
  unfold fixedP
  split
  · split
    · split
      · exact h.next _
      · exact (h.next _).fail 6
    · exact (h.next _).fail 5
  · exact h
theorem sum_inv {b : List UInt8} (hb : rowB b = true) {S : RS} {n : Nat} (h : Inv b S n) : Inv b (sumP b S) (n + 15) := by
  unfold sumP
  split
  · exact h.take hb 15
  · exact (h.take hb 15).fail 6
set_option maxHeartbeats 16000000 in
theorem read_ok (b : ByteArray) (w : World) (hS : SizesAt w) (hR : RulesAt w) (hc : checkE b.data.toList = 0) :
    Calls Tryz.prog 6 #[.string b] w fun e w' => ((rdE b.data.toList).fl ≠ 0 → e = .returned (.tuple #[frameV 0 false false false 0 none 0 0, .int .i64 0, .int .i64 (rdE b.data.toList).fl])) ∧
      ((rdE b.data.toList).fl = 0 → ∃ a len cap, e = .returned (.tuple #[frameV (rdF b.data.toList).id (rdF b.data.toList).lo (rdF b.data.toList).fa (rdF b.data.toList).re (rdF b.data.toList).sz a len cap, .int .i64 (rdE b.data.toList).u, .int .i64 0]) ∧ IsBytes w' a len cap (rdF b.data.toList).dt) ∧ Below w.heap.size w w' := by
  obtain ⟨h1000, hrow⟩ := small_of_check hc
  have hbl : b.data.toList.length = b.size := by simp
  have hck := fun W => check_any b W (by unfold maxLen; omega)
  rw [hc] at hck
  have iA := name_inv hrow (Inv.start b.data.toList) Mst.start
  have iB := form_inv hrow iA.1 iA.2.1 (rdA b.data.toList).lo (rdA b.data.toList).re
  have iD := data_inv hrow iB.1 iB.2.1 (rdB b.data.toList).2 (rdA b.data.toList).re
  have hdl := data_len b.data.toList hrow (rdB b.data.toList).1 (rdB b.data.toList).2 (rdA b.data.toList).re
  have a1 := fun (g : Nat) (W : World) hW => readName_any g b ⟨0, 0, []⟩ ⟨0, false, false, false, 0, .slice none 0 0⟩ 0 W hW hc (Inv.start _) (by omega)
  have a2 := fun (g : Nat) (W : World) hW => readForm_any g b (rdA b.data.toList).S ⟨(rdA b.data.toList).id, (rdA b.data.toList).lo, false, (rdA b.data.toList).re, 0, .slice none 0 0⟩ _ W hW hc iA.1 (by omega)
  have a3 := fun (g : Nat) (W : World) hW hSW hg => readData_any g b (rdB b.data.toList).1 (rdA b.data.toList).id (rdA b.data.toList).lo (rdB b.data.toList).2 (rdA b.data.toList).re _ W hW hSW hg hc iB.1 (by omega)
  have a4 := fun (g : Nat) (W : World) F hW hRW hg hd => readFixed_any g b (rdD b.data.toList).S F _ (rdD b.data.toList).dt W hW hRW hg hd hdl hc iD.1 (by omega) iD.2.1 iD.2.2
  have a5 := fun (g : Nat) (W : World) F hW hRW => readSum_any g b (rdD b.data.toList).S F _ W hW hRW hc iD.1 (by omega)
  have iS : Inv b.data.toList (rdS b.data.toList) 600 := by
    unfold rdS
    split
    · exact (fixed_inv iD.1 _).up (by omega)
    · exact (sum_inv hrow iD.1).up (by omega)
  have a6 := fun (g : Nat) (W : World) F hW => readEnding_any g b (rdS b.data.toList) F W hW h1000 (by have := iS.u; omega)
  have q1 : nameP b.data.toList ⟨0, 0, []⟩ = rdA b.data.toList := rfl
  have q2 : formP b.data.toList (rdA b.data.toList).S (rdA b.data.toList).lo (rdA b.data.toList).re = rdB b.data.toList := rfl
  have q3 : dataP b.data.toList (rdB b.data.toList).1 (rdB b.data.toList).2 (rdA b.data.toList).re = rdD b.data.toList := rfl
  have q6 : endP b.data.toList (rdS b.data.toList) = rdE b.data.toList := rfl
  have q4 : rdS b.data.toList = if (rdB b.data.toList).2 then fixedP b.data.toList (rdD b.data.toList).S (rdD b.data.toList).dt.length else sumP b.data.toList (rdD b.data.toList).S := rfl
  rw [q1] at a1
  rw [q2] at a2
  rw [q3] at a3
  rw [q6] at a6
  unfold rdF
  simp only
  simp only at a2
  generalize rdA b.data.toList = A at *
  generalize rdB b.data.toList = BB at *
  generalize rdD b.data.toList = D at *
  generalize rdS b.data.toList = S5 at *
  generalize rdE b.data.toList = E at *
  obtain ⟨S2, fa⟩ := BB
  simp only at a2 a3 q4 ⊢
  have hB0 : Below w.heap.size w (w.alloc zeroC) := (Below.refl _ _).alloc (Nat.le_refl _) _
  have hA0 := heap_alloc_new w zeroC
  unfold zeroC at hB0 hA0
  have HCK := Hid.mk hck
  have HA1 := Hid.mk a1
  have HA2 := Hid.mk a2
  have HA3 := Hid.mk a3
  have HA4 := Hid.mk a4
  have HA5 := Hid.mk a5
  have HA6 := Hid.mk a6
  have HS := Hid.mk hS
  have HR := Hid.mk hR
  have HGS := Hid.mk (show 0 < w.heap.size from block_lt_of_cell (hS 0 (by decide)))
  have HGR := Hid.mk (show 1 < w.heap.size from block_lt_of_cell (hR 0 (by omega)).1)
  clear hck a1 a2 a3 a4 a5 a6 hS hR iA iB iD iS hdl q1 q2 q3 q6 hbl hrow hc
  go_enter Tryz.func6, Tryz.ntmps6
  go_wp2_with fail
  refine (HCK.out _).mono ?_
  rintro e w1 ⟨rfl, hb1⟩
  have hB1 := bl2 hB0 hb1
  have hA1 := hb1.block w.heap.size (by simp)
  rw [hA0] at hA1
  have hlt := hb1.size
  simp only [World.alloc, Array.size_push] at hlt
  have HB1 := Hid.mk hB1
  have HA := Hid.mk hA1
  clear hB0 hA0 hb1 hB1 hA1 HCK
  have hRd : RdAt (w1.alloc (.cells #[.string b, .int .i64 0, .int .i64 0, .string ⟨#[]⟩, .int .i64 0, .bool false, .bool false, .bool false, .int .i64 0, .slice none 0 0] 53)) w1.heap.size b ⟨0, 0, []⟩ ⟨0, false, false, false, 0, .slice none 0 0⟩ := heap_alloc_new w1 _
  have hBz : Below w1.heap.size w1 (w1.alloc (.cells #[.string b, .int .i64 0, .int .i64 0, .string ⟨#[]⟩, .int .i64 0, .bool false, .bool false, .bool false, .int .i64 0, .slice none 0 0] 53)) := (Below.refl _ _).alloc (Nat.le_refl _) _
  have HRD := Hid.mk hRd
  have HBZ := Hid.mk hBz
  clear hRd hBz
  set_option maxRecDepth 100000 in
  go_wp2_with fail
  generalize w1.alloc (.cells #[.string b, .int .i64 0, .int .i64 0, .string ⟨#[]⟩, .int .i64 0, .bool false, .bool false, .bool false, .int .i64 0, .slice none 0 0] 53) = w10 at *
  have hg : w.heap.size < w1.heap.size := by omega
  have HB10 := Hid.mk (bl2 HB1.out HBZ.out)
  have HA10 := Hid.mk ((HBZ.out.block w.heap.size hg).trans HA.out)
  have hgS : 0 ≠ w1.heap.size := by have := HGS.out; omega
  have hgR : 1 ≠ w1.heap.size := by have := HGR.out; omega
  have hle1 := HB1.out.size
  have hgt10 := HRD.out.lt
  generalize w1.heap.size = g at *
  have HGSN := Hid.mk hgS
  have HGRN := Hid.mk hgR
  have HS10 := Hid.mk (HS.out.kept HB10.out)
  have HR10 := Hid.mk (HR.out.kept HB10.out)
  clear HB1 HBZ HA HS HR HGS HGR hgS hgR hlt
  refine (HA1.out g _ HRD.out).mono ?_
  rintro e w2 ⟨rfl, h2, t2⟩
  have H2 := Hid.mk h2
  have T2 := Hid.mk t2
  clear h2 t2 HRD HA1
  go_wp2_with fail
  refine (HA2.out g _ H2.out).mono ?_
  rintro e w3 ⟨rfl, h3, t3⟩
  have H3 := Hid.mk h3
  have T3 := Hid.mk (T2.out.trans t3)
  clear h3 t3 H2 T2 HA2
  go_wp2_with fail
  refine (HA3.out g _ H3.out (HS10.out.tch T3.out HGSN.out) HGSN.out).mono ?_
  rintro e w4 ⟨rfl, d, h4, hd4, t4⟩
  have H4 := Hid.mk h4
  have HD4 := Hid.mk hd4
  have T4 := Hid.mk (T3.out.trans t4)
  have k6 := h4.c6
  clear h4 t4 hd4 H3 T3 HA3
  have common : ∀ w5, RdAt w5 g b S5 ⟨A.id, A.lo, fa, A.re, D.sz, d⟩ → DataAt w5 g d D.dt → Tch [g] w10 w5 → True := fun _ _ _ _ => trivial
  clear common
  cases fa
  · rw [if_neg (by simp)] at q4
    rw [← q4] at HA5
    go_wp2_with fail
    refine (HA5.out g _ _ H4.out (HR10.out.tch T4.out HGRN.out)).mono ?_
    rintro e w5 ⟨rfl, h5, t5⟩
    have H5 := Hid.mk h5
    have HD5 := Hid.mk (HD4.out.tch t5)
    have T5 := Hid.mk (T4.out.trans t5)
    clear h5 t5 H4 T4 k6 HA4 HA5 HD4
    go_wp2_with fail
    refine (HA6.out g _ _ H5.out).mono ?_
    rintro e w6 ⟨rfl, h6, t6⟩
    have T6 := Hid.mk (T5.out.trans t6)
    have HD6 := Hid.mk (HD5.out.tch t6)
    have HA6' := Hid.mk ((T6.out.block w.heap.size (by omega) (by simp; omega)).trans HA10.out)
    have hz : w6.heap[w.heap.size]? = some (.cells #[.int .i64 0, .bool false, .bool false, .bool false, .int .i64 0, .slice none 0 0] 24 (0, 0)) := HA6'.out
    have HB6 := Hid.mk (Tch.below HB10.out T6.out (by simp; omega) (Nat.le_refl _))
    have b0 := cell_of_row w6 w.heap.size 0 _ _ _ hz
    have f0 := frozen_of_row w6 w.heap.size 0 _ _ hz
    simp at b0
    have b1 := cell_of_row w6 w.heap.size 1 _ _ _ hz
    have f1 := frozen_of_row w6 w.heap.size 1 _ _ hz
    simp at b1
    have b2 := cell_of_row w6 w.heap.size 2 _ _ _ hz
    have f2 := frozen_of_row w6 w.heap.size 2 _ _ hz
    simp at b2
    have b3 := cell_of_row w6 w.heap.size 3 _ _ _ hz
    have f3 := frozen_of_row w6 w.heap.size 3 _ _ hz
    simp at b3
    have b4 := cell_of_row w6 w.heap.size 4 _ _ _ hz
    have f4 := frozen_of_row w6 w.heap.size 4 _ _ hz
    simp at b4
    have b5 := cell_of_row w6 w.heap.size 5 _ _ _ hz
    have f5 := frozen_of_row w6 w.heap.size 5 _ _ hz
    simp at b5
    have m1 := h6.c1
    have m2 := h6.c2
    have m4 := h6.c4
    have m5 := h6.c5
    have m6 := h6.c6
    have m7 := h6.c7
    have m8 := h6.c8
    have m9 := h6.c9
    have H6 := Hid.mk h6
    clear h6 t6 T5 HD5 H5 HA6
    by_cases hE : E.fl = 0
    · rw [hE] at m2
      obtain ⟨a, len, cap, hdv, hby, hblk⟩ := HD6.out
      subst hdv
      have kc0 := cell_of_row w6 w.heap.size 0 _ _ _ hz
      have kz0 := frozen_of_row w6 w.heap.size 0 _ _ hz
      have ks0 := heap_setCell_same w6 w.heap.size 0 _ _ (.int .i64 (A.id : Int)) hz
      simp only [List.setIfInBounds_toArray, List.set_cons_zero] at ks0
      simp at kc0
      have kc1 := cell_of_row (w6.setCell ⟨w.heap.size, 0, none⟩ (.int .i64 (A.id : Int))) w.heap.size 1 _ _ _ ks0
      have kz1 := frozen_of_row (w6.setCell ⟨w.heap.size, 0, none⟩ (.int .i64 (A.id : Int))) w.heap.size 1 _ _ ks0
      have ks1 := heap_setCell_same (w6.setCell ⟨w.heap.size, 0, none⟩ (.int .i64 (A.id : Int))) w.heap.size 1 _ _ (.bool A.lo) ks0
      simp only [List.setIfInBounds_toArray, List.set_cons_zero, List.set_cons_succ] at ks1
      simp at kc1
      have kc2 := cell_of_row ((w6.setCell ⟨w.heap.size, 0, none⟩ (.int .i64 (A.id : Int))).setCell ⟨w.heap.size, 1, none⟩ (.bool A.lo)) w.heap.size 2 _ _ _ ks1
      have kz2 := frozen_of_row ((w6.setCell ⟨w.heap.size, 0, none⟩ (.int .i64 (A.id : Int))).setCell ⟨w.heap.size, 1, none⟩ (.bool A.lo)) w.heap.size 2 _ _ ks1
      have ks2 := heap_setCell_same ((w6.setCell ⟨w.heap.size, 0, none⟩ (.int .i64 (A.id : Int))).setCell ⟨w.heap.size, 1, none⟩ (.bool A.lo)) w.heap.size 2 _ _ (.bool false) ks1
      simp only [List.setIfInBounds_toArray, List.set_cons_zero, List.set_cons_succ] at ks2
      simp at kc2
      have kc3 := cell_of_row (((w6.setCell ⟨w.heap.size, 0, none⟩ (.int .i64 (A.id : Int))).setCell ⟨w.heap.size, 1, none⟩ (.bool A.lo)).setCell ⟨w.heap.size, 2, none⟩ (.bool false)) w.heap.size 3 _ _ _ ks2
      have kz3 := frozen_of_row (((w6.setCell ⟨w.heap.size, 0, none⟩ (.int .i64 (A.id : Int))).setCell ⟨w.heap.size, 1, none⟩ (.bool A.lo)).setCell ⟨w.heap.size, 2, none⟩ (.bool false)) w.heap.size 3 _ _ ks2
      have ks3 := heap_setCell_same (((w6.setCell ⟨w.heap.size, 0, none⟩ (.int .i64 (A.id : Int))).setCell ⟨w.heap.size, 1, none⟩ (.bool A.lo)).setCell ⟨w.heap.size, 2, none⟩ (.bool false)) w.heap.size 3 _ _ (.bool A.re) ks2
      simp only [List.setIfInBounds_toArray, List.set_cons_zero, List.set_cons_succ] at ks3
      simp at kc3
      have kc4 := cell_of_row ((((w6.setCell ⟨w.heap.size, 0, none⟩ (.int .i64 (A.id : Int))).setCell ⟨w.heap.size, 1, none⟩ (.bool A.lo)).setCell ⟨w.heap.size, 2, none⟩ (.bool false)).setCell ⟨w.heap.size, 3, none⟩ (.bool A.re)) w.heap.size 4 _ _ _ ks3
      have kz4 := frozen_of_row ((((w6.setCell ⟨w.heap.size, 0, none⟩ (.int .i64 (A.id : Int))).setCell ⟨w.heap.size, 1, none⟩ (.bool A.lo)).setCell ⟨w.heap.size, 2, none⟩ (.bool false)).setCell ⟨w.heap.size, 3, none⟩ (.bool A.re)) w.heap.size 4 _ _ ks3
      have ks4 := heap_setCell_same ((((w6.setCell ⟨w.heap.size, 0, none⟩ (.int .i64 (A.id : Int))).setCell ⟨w.heap.size, 1, none⟩ (.bool A.lo)).setCell ⟨w.heap.size, 2, none⟩ (.bool false)).setCell ⟨w.heap.size, 3, none⟩ (.bool A.re)) w.heap.size 4 _ _ (.int .i64 (D.sz : Int)) ks3
      simp only [List.setIfInBounds_toArray, List.set_cons_zero, List.set_cons_succ] at ks4
      simp at kc4
      have kc5 := cell_of_row (((((w6.setCell ⟨w.heap.size, 0, none⟩ (.int .i64 (A.id : Int))).setCell ⟨w.heap.size, 1, none⟩ (.bool A.lo)).setCell ⟨w.heap.size, 2, none⟩ (.bool false)).setCell ⟨w.heap.size, 3, none⟩ (.bool A.re)).setCell ⟨w.heap.size, 4, none⟩ (.int .i64 (D.sz : Int))) w.heap.size 5 _ _ _ ks4
      have kz5 := frozen_of_row (((((w6.setCell ⟨w.heap.size, 0, none⟩ (.int .i64 (A.id : Int))).setCell ⟨w.heap.size, 1, none⟩ (.bool A.lo)).setCell ⟨w.heap.size, 2, none⟩ (.bool false)).setCell ⟨w.heap.size, 3, none⟩ (.bool A.re)).setCell ⟨w.heap.size, 4, none⟩ (.int .i64 (D.sz : Int))) w.heap.size 5 _ _ ks4
      have ks5 := heap_setCell_same (((((w6.setCell ⟨w.heap.size, 0, none⟩ (.int .i64 (A.id : Int))).setCell ⟨w.heap.size, 1, none⟩ (.bool A.lo)).setCell ⟨w.heap.size, 2, none⟩ (.bool false)).setCell ⟨w.heap.size, 3, none⟩ (.bool A.re)).setCell ⟨w.heap.size, 4, none⟩ (.int .i64 (D.sz : Int))) w.heap.size 5 _ _ (.slice a len cap) ks4
      simp only [List.setIfInBounds_toArray, List.set_cons_zero, List.set_cons_succ] at ks5
      simp at kc5
      have hT : Tch [w.heap.size] w6 ((((((w6.setCell ⟨w.heap.size, 0, none⟩ (.int .i64 (A.id : Int))).setCell ⟨w.heap.size, 1, none⟩ (.bool A.lo)).setCell ⟨w.heap.size, 2, none⟩ (.bool false)).setCell ⟨w.heap.size, 3, none⟩ (.bool A.re)).setCell ⟨w.heap.size, 4, none⟩ (.int .i64 (D.sz : Int))).setCell ⟨w.heap.size, 5, none⟩ (.slice a len cap)) := ((((((((Tch.refl [w.heap.size] w6).setK (by simp) _ _).setK (by simp) _ _).setK (by simp) _ _).setK (by simp) _ _).setK (by simp) _ _).setK (by simp) _ _))
      have p1 : ((((((w6.setCell ⟨w.heap.size, 0, none⟩ (.int .i64 (A.id : Int))).setCell ⟨w.heap.size, 1, none⟩ (.bool A.lo)).setCell ⟨w.heap.size, 2, none⟩ (.bool false)).setCell ⟨w.heap.size, 3, none⟩ (.bool A.re)).setCell ⟨w.heap.size, 4, none⟩ (.int .i64 (D.sz : Int))).setCell ⟨w.heap.size, 5, none⟩ (.slice a len cap)).cell? ⟨g, 1, none⟩ = some (.int .i64 E.u) := (hT.rd H6.out (by simp; omega)).c1
      have HP := Hid.mk (Tch.below HB6.out hT.drew (by simp) (Nat.le_refl _))
      have HFIN := Hid.mk (row_drew ks5)
      have hb6d : IsBytes w6 a len cap D.dt := hby
      have HBY := Hid.mk (isBytes_drew (isBytes_tch hb6d hT (fun x hx => by have := hblk x hx; simp; omega)))
      clear hT hby hblk hb6d p1
      clear kc0 kz0 ks0 kc1 kz1 ks1 kc2 kz2 ks2 kc3 kz3 ks3 kc4 kz4 ks4 kc5 kz5 ks5 hz
      set_option maxRecDepth 100000 in
      go_wp2_with fail
      set_option maxRecDepth 100000 in
      go_region
      all_goals focus
        go_wp2_with fail
        refine bodyPost_ret (read_results _ _ w.heap.size _ _ _ rfl rfl rfl HFIN.out rfl) rfl ?_
        exact ⟨fun h => absurd hE h, fun _ => ⟨a, len, cap, rfl, HBY.out⟩, HP.out⟩
    · have hne : (E.fl != 0) = true := by simpa using hE
      have kc0 := cell_of_row w6 w.heap.size 0 _ _ _ hz
      have kz0 := frozen_of_row w6 w.heap.size 0 _ _ hz
      have ks0 := heap_setCell_same w6 w.heap.size 0 _ _ (.int .i64 0) hz
      simp only [List.setIfInBounds_toArray, List.set_cons_zero] at ks0
      simp at kc0
      have kc1 := cell_of_row (w6.setCell ⟨w.heap.size, 0, none⟩ (.int .i64 0)) w.heap.size 1 _ _ _ ks0
      have kz1 := frozen_of_row (w6.setCell ⟨w.heap.size, 0, none⟩ (.int .i64 0)) w.heap.size 1 _ _ ks0
      have ks1 := heap_setCell_same (w6.setCell ⟨w.heap.size, 0, none⟩ (.int .i64 0)) w.heap.size 1 _ _ (.bool false) ks0
      simp only [List.setIfInBounds_toArray, List.set_cons_zero, List.set_cons_succ] at ks1
      simp at kc1
      have kc2 := cell_of_row ((w6.setCell ⟨w.heap.size, 0, none⟩ (.int .i64 0)).setCell ⟨w.heap.size, 1, none⟩ (.bool false)) w.heap.size 2 _ _ _ ks1
      have kz2 := frozen_of_row ((w6.setCell ⟨w.heap.size, 0, none⟩ (.int .i64 0)).setCell ⟨w.heap.size, 1, none⟩ (.bool false)) w.heap.size 2 _ _ ks1
      have ks2 := heap_setCell_same ((w6.setCell ⟨w.heap.size, 0, none⟩ (.int .i64 0)).setCell ⟨w.heap.size, 1, none⟩ (.bool false)) w.heap.size 2 _ _ (.bool false) ks1
      simp only [List.setIfInBounds_toArray, List.set_cons_zero, List.set_cons_succ] at ks2
      simp at kc2
      have kc3 := cell_of_row (((w6.setCell ⟨w.heap.size, 0, none⟩ (.int .i64 0)).setCell ⟨w.heap.size, 1, none⟩ (.bool false)).setCell ⟨w.heap.size, 2, none⟩ (.bool false)) w.heap.size 3 _ _ _ ks2
      have kz3 := frozen_of_row (((w6.setCell ⟨w.heap.size, 0, none⟩ (.int .i64 0)).setCell ⟨w.heap.size, 1, none⟩ (.bool false)).setCell ⟨w.heap.size, 2, none⟩ (.bool false)) w.heap.size 3 _ _ ks2
      have ks3 := heap_setCell_same (((w6.setCell ⟨w.heap.size, 0, none⟩ (.int .i64 0)).setCell ⟨w.heap.size, 1, none⟩ (.bool false)).setCell ⟨w.heap.size, 2, none⟩ (.bool false)) w.heap.size 3 _ _ (.bool false) ks2
      simp only [List.setIfInBounds_toArray, List.set_cons_zero, List.set_cons_succ] at ks3
      simp at kc3
      have kc4 := cell_of_row ((((w6.setCell ⟨w.heap.size, 0, none⟩ (.int .i64 0)).setCell ⟨w.heap.size, 1, none⟩ (.bool false)).setCell ⟨w.heap.size, 2, none⟩ (.bool false)).setCell ⟨w.heap.size, 3, none⟩ (.bool false)) w.heap.size 4 _ _ _ ks3
      have kz4 := frozen_of_row ((((w6.setCell ⟨w.heap.size, 0, none⟩ (.int .i64 0)).setCell ⟨w.heap.size, 1, none⟩ (.bool false)).setCell ⟨w.heap.size, 2, none⟩ (.bool false)).setCell ⟨w.heap.size, 3, none⟩ (.bool false)) w.heap.size 4 _ _ ks3
      have ks4 := heap_setCell_same ((((w6.setCell ⟨w.heap.size, 0, none⟩ (.int .i64 0)).setCell ⟨w.heap.size, 1, none⟩ (.bool false)).setCell ⟨w.heap.size, 2, none⟩ (.bool false)).setCell ⟨w.heap.size, 3, none⟩ (.bool false)) w.heap.size 4 _ _ (.int .i64 0) ks3
      simp only [List.setIfInBounds_toArray, List.set_cons_zero, List.set_cons_succ] at ks4
      simp at kc4
      have kc5 := cell_of_row (((((w6.setCell ⟨w.heap.size, 0, none⟩ (.int .i64 0)).setCell ⟨w.heap.size, 1, none⟩ (.bool false)).setCell ⟨w.heap.size, 2, none⟩ (.bool false)).setCell ⟨w.heap.size, 3, none⟩ (.bool false)).setCell ⟨w.heap.size, 4, none⟩ (.int .i64 0)) w.heap.size 5 _ _ _ ks4
      have kz5 := frozen_of_row (((((w6.setCell ⟨w.heap.size, 0, none⟩ (.int .i64 0)).setCell ⟨w.heap.size, 1, none⟩ (.bool false)).setCell ⟨w.heap.size, 2, none⟩ (.bool false)).setCell ⟨w.heap.size, 3, none⟩ (.bool false)).setCell ⟨w.heap.size, 4, none⟩ (.int .i64 0)) w.heap.size 5 _ _ ks4
      have ks5 := heap_setCell_same (((((w6.setCell ⟨w.heap.size, 0, none⟩ (.int .i64 0)).setCell ⟨w.heap.size, 1, none⟩ (.bool false)).setCell ⟨w.heap.size, 2, none⟩ (.bool false)).setCell ⟨w.heap.size, 3, none⟩ (.bool false)).setCell ⟨w.heap.size, 4, none⟩ (.int .i64 0)) w.heap.size 5 _ _ (.slice none 0 0) ks4
      simp only [List.setIfInBounds_toArray, List.set_cons_zero, List.set_cons_succ] at ks5
      simp at kc5
      have hT : Tch [w.heap.size] w6 ((((((w6.setCell ⟨w.heap.size, 0, none⟩ (.int .i64 0)).setCell ⟨w.heap.size, 1, none⟩ (.bool false)).setCell ⟨w.heap.size, 2, none⟩ (.bool false)).setCell ⟨w.heap.size, 3, none⟩ (.bool false)).setCell ⟨w.heap.size, 4, none⟩ (.int .i64 0)).setCell ⟨w.heap.size, 5, none⟩ (.slice none 0 0)) := ((((((((Tch.refl [w.heap.size] w6).setK (by simp) _ _).setK (by simp) _ _).setK (by simp) _ _).setK (by simp) _ _).setK (by simp) _ _).setK (by simp) _ _))
      have p2 : ((((((w6.setCell ⟨w.heap.size, 0, none⟩ (.int .i64 0)).setCell ⟨w.heap.size, 1, none⟩ (.bool false)).setCell ⟨w.heap.size, 2, none⟩ (.bool false)).setCell ⟨w.heap.size, 3, none⟩ (.bool false)).setCell ⟨w.heap.size, 4, none⟩ (.int .i64 0)).setCell ⟨w.heap.size, 5, none⟩ (.slice none 0 0)).cell? ⟨g, 2, none⟩ = some (.int .i64 E.fl) := (hT.rd H6.out (by simp; omega)).c2
      have HP := Hid.mk (Tch.below HB6.out hT.drew (by simp) (Nat.le_refl _))
      have HFIN := Hid.mk (row_drew ks5)
      clear hT p2
      clear kc0 kz0 ks0 kc1 kz1 ks1 kc2 kz2 ks2 kc3 kz3 ks3 kc4 kz4 ks4 kc5 kz5 ks5 hz
      set_option maxRecDepth 100000 in
      go_wp2_with fail
      set_option maxRecDepth 100000 in
      go_region
      all_goals focus
        go_wp2_with fail
        refine bodyPost_ret (read_results _ _ w.heap.size _ _ _ rfl rfl rfl HFIN.out rfl) rfl ?_
        exact ⟨fun _ => rfl, fun h => absurd h hE, HP.out⟩
  · rw [if_pos rfl] at q4
    rw [← q4] at HA4
    go_wp2_with fail
    refine (HA4.out g _ _ H4.out (HR10.out.tch T4.out HGRN.out) HGRN.out HD4.out).mono ?_
    rintro e w5 ⟨rfl, h5, t5⟩
    have H5 := Hid.mk h5
    have HD5 := Hid.mk (HD4.out.tch t5)
    have T5 := Hid.mk (T4.out.trans t5)
    clear h5 t5 H4 T4 k6 HA4 HA5 HD4
    go_wp2_with fail
    refine (HA6.out g _ _ H5.out).mono ?_
    rintro e w6 ⟨rfl, h6, t6⟩
    have T6 := Hid.mk (T5.out.trans t6)
    have HD6 := Hid.mk (HD5.out.tch t6)
    have HA6' := Hid.mk ((T6.out.block w.heap.size (by omega) (by simp; omega)).trans HA10.out)
    have hz : w6.heap[w.heap.size]? = some (.cells #[.int .i64 0, .bool false, .bool false, .bool false, .int .i64 0, .slice none 0 0] 24 (0, 0)) := HA6'.out
    have HB6 := Hid.mk (Tch.below HB10.out T6.out (by simp; omega) (Nat.le_refl _))
    have b0 := cell_of_row w6 w.heap.size 0 _ _ _ hz
    have f0 := frozen_of_row w6 w.heap.size 0 _ _ hz
    simp at b0
    have b1 := cell_of_row w6 w.heap.size 1 _ _ _ hz
    have f1 := frozen_of_row w6 w.heap.size 1 _ _ hz
    simp at b1
    have b2 := cell_of_row w6 w.heap.size 2 _ _ _ hz
    have f2 := frozen_of_row w6 w.heap.size 2 _ _ hz
    simp at b2
    have b3 := cell_of_row w6 w.heap.size 3 _ _ _ hz
    have f3 := frozen_of_row w6 w.heap.size 3 _ _ hz
    simp at b3
    have b4 := cell_of_row w6 w.heap.size 4 _ _ _ hz
    have f4 := frozen_of_row w6 w.heap.size 4 _ _ hz
    simp at b4
    have b5 := cell_of_row w6 w.heap.size 5 _ _ _ hz
    have f5 := frozen_of_row w6 w.heap.size 5 _ _ hz
    simp at b5
    have m1 := h6.c1
    have m2 := h6.c2
    have m4 := h6.c4
    have m5 := h6.c5
    have m6 := h6.c6
    have m7 := h6.c7
    have m8 := h6.c8
    have m9 := h6.c9
    have H6 := Hid.mk h6
    clear h6 t6 T5 HD5 H5 HA6
    by_cases hE : E.fl = 0
    · rw [hE] at m2
      obtain ⟨a, len, cap, hdv, hby, hblk⟩ := HD6.out
      subst hdv
      have kc0 := cell_of_row w6 w.heap.size 0 _ _ _ hz
      have kz0 := frozen_of_row w6 w.heap.size 0 _ _ hz
      have ks0 := heap_setCell_same w6 w.heap.size 0 _ _ (.int .i64 (A.id : Int)) hz
      simp only [List.setIfInBounds_toArray, List.set_cons_zero] at ks0
      simp at kc0
      have kc1 := cell_of_row (w6.setCell ⟨w.heap.size, 0, none⟩ (.int .i64 (A.id : Int))) w.heap.size 1 _ _ _ ks0
      have kz1 := frozen_of_row (w6.setCell ⟨w.heap.size, 0, none⟩ (.int .i64 (A.id : Int))) w.heap.size 1 _ _ ks0
      have ks1 := heap_setCell_same (w6.setCell ⟨w.heap.size, 0, none⟩ (.int .i64 (A.id : Int))) w.heap.size 1 _ _ (.bool A.lo) ks0
      simp only [List.setIfInBounds_toArray, List.set_cons_zero, List.set_cons_succ] at ks1
      simp at kc1
      have kc2 := cell_of_row ((w6.setCell ⟨w.heap.size, 0, none⟩ (.int .i64 (A.id : Int))).setCell ⟨w.heap.size, 1, none⟩ (.bool A.lo)) w.heap.size 2 _ _ _ ks1
      have kz2 := frozen_of_row ((w6.setCell ⟨w.heap.size, 0, none⟩ (.int .i64 (A.id : Int))).setCell ⟨w.heap.size, 1, none⟩ (.bool A.lo)) w.heap.size 2 _ _ ks1
      have ks2 := heap_setCell_same ((w6.setCell ⟨w.heap.size, 0, none⟩ (.int .i64 (A.id : Int))).setCell ⟨w.heap.size, 1, none⟩ (.bool A.lo)) w.heap.size 2 _ _ (.bool true) ks1
      simp only [List.setIfInBounds_toArray, List.set_cons_zero, List.set_cons_succ] at ks2
      simp at kc2
      have kc3 := cell_of_row (((w6.setCell ⟨w.heap.size, 0, none⟩ (.int .i64 (A.id : Int))).setCell ⟨w.heap.size, 1, none⟩ (.bool A.lo)).setCell ⟨w.heap.size, 2, none⟩ (.bool true)) w.heap.size 3 _ _ _ ks2
      have kz3 := frozen_of_row (((w6.setCell ⟨w.heap.size, 0, none⟩ (.int .i64 (A.id : Int))).setCell ⟨w.heap.size, 1, none⟩ (.bool A.lo)).setCell ⟨w.heap.size, 2, none⟩ (.bool true)) w.heap.size 3 _ _ ks2
      have ks3 := heap_setCell_same (((w6.setCell ⟨w.heap.size, 0, none⟩ (.int .i64 (A.id : Int))).setCell ⟨w.heap.size, 1, none⟩ (.bool A.lo)).setCell ⟨w.heap.size, 2, none⟩ (.bool true)) w.heap.size 3 _ _ (.bool A.re) ks2
      simp only [List.setIfInBounds_toArray, List.set_cons_zero, List.set_cons_succ] at ks3
      simp at kc3
      have kc4 := cell_of_row ((((w6.setCell ⟨w.heap.size, 0, none⟩ (.int .i64 (A.id : Int))).setCell ⟨w.heap.size, 1, none⟩ (.bool A.lo)).setCell ⟨w.heap.size, 2, none⟩ (.bool true)).setCell ⟨w.heap.size, 3, none⟩ (.bool A.re)) w.heap.size 4 _ _ _ ks3
      have kz4 := frozen_of_row ((((w6.setCell ⟨w.heap.size, 0, none⟩ (.int .i64 (A.id : Int))).setCell ⟨w.heap.size, 1, none⟩ (.bool A.lo)).setCell ⟨w.heap.size, 2, none⟩ (.bool true)).setCell ⟨w.heap.size, 3, none⟩ (.bool A.re)) w.heap.size 4 _ _ ks3
      have ks4 := heap_setCell_same ((((w6.setCell ⟨w.heap.size, 0, none⟩ (.int .i64 (A.id : Int))).setCell ⟨w.heap.size, 1, none⟩ (.bool A.lo)).setCell ⟨w.heap.size, 2, none⟩ (.bool true)).setCell ⟨w.heap.size, 3, none⟩ (.bool A.re)) w.heap.size 4 _ _ (.int .i64 (D.sz : Int)) ks3
      simp only [List.setIfInBounds_toArray, List.set_cons_zero, List.set_cons_succ] at ks4
      simp at kc4
      have kc5 := cell_of_row (((((w6.setCell ⟨w.heap.size, 0, none⟩ (.int .i64 (A.id : Int))).setCell ⟨w.heap.size, 1, none⟩ (.bool A.lo)).setCell ⟨w.heap.size, 2, none⟩ (.bool true)).setCell ⟨w.heap.size, 3, none⟩ (.bool A.re)).setCell ⟨w.heap.size, 4, none⟩ (.int .i64 (D.sz : Int))) w.heap.size 5 _ _ _ ks4
      have kz5 := frozen_of_row (((((w6.setCell ⟨w.heap.size, 0, none⟩ (.int .i64 (A.id : Int))).setCell ⟨w.heap.size, 1, none⟩ (.bool A.lo)).setCell ⟨w.heap.size, 2, none⟩ (.bool true)).setCell ⟨w.heap.size, 3, none⟩ (.bool A.re)).setCell ⟨w.heap.size, 4, none⟩ (.int .i64 (D.sz : Int))) w.heap.size 5 _ _ ks4
      have ks5 := heap_setCell_same (((((w6.setCell ⟨w.heap.size, 0, none⟩ (.int .i64 (A.id : Int))).setCell ⟨w.heap.size, 1, none⟩ (.bool A.lo)).setCell ⟨w.heap.size, 2, none⟩ (.bool true)).setCell ⟨w.heap.size, 3, none⟩ (.bool A.re)).setCell ⟨w.heap.size, 4, none⟩ (.int .i64 (D.sz : Int))) w.heap.size 5 _ _ (.slice a len cap) ks4
      simp only [List.setIfInBounds_toArray, List.set_cons_zero, List.set_cons_succ] at ks5
      simp at kc5
      have hT : Tch [w.heap.size] w6 ((((((w6.setCell ⟨w.heap.size, 0, none⟩ (.int .i64 (A.id : Int))).setCell ⟨w.heap.size, 1, none⟩ (.bool A.lo)).setCell ⟨w.heap.size, 2, none⟩ (.bool true)).setCell ⟨w.heap.size, 3, none⟩ (.bool A.re)).setCell ⟨w.heap.size, 4, none⟩ (.int .i64 (D.sz : Int))).setCell ⟨w.heap.size, 5, none⟩ (.slice a len cap)) := ((((((((Tch.refl [w.heap.size] w6).setK (by simp) _ _).setK (by simp) _ _).setK (by simp) _ _).setK (by simp) _ _).setK (by simp) _ _).setK (by simp) _ _))
      have p1 : ((((((w6.setCell ⟨w.heap.size, 0, none⟩ (.int .i64 (A.id : Int))).setCell ⟨w.heap.size, 1, none⟩ (.bool A.lo)).setCell ⟨w.heap.size, 2, none⟩ (.bool true)).setCell ⟨w.heap.size, 3, none⟩ (.bool A.re)).setCell ⟨w.heap.size, 4, none⟩ (.int .i64 (D.sz : Int))).setCell ⟨w.heap.size, 5, none⟩ (.slice a len cap)).cell? ⟨g, 1, none⟩ = some (.int .i64 E.u) := (hT.rd H6.out (by simp; omega)).c1
      have HP := Hid.mk (Tch.below HB6.out hT.drew (by simp) (Nat.le_refl _))
      have HFIN := Hid.mk (row_drew ks5)
      have hb6d : IsBytes w6 a len cap D.dt := hby
      have HBY := Hid.mk (isBytes_drew (isBytes_tch hb6d hT (fun x hx => by have := hblk x hx; simp; omega)))
      clear hT hby hblk hb6d p1
      clear kc0 kz0 ks0 kc1 kz1 ks1 kc2 kz2 ks2 kc3 kz3 ks3 kc4 kz4 ks4 kc5 kz5 ks5 hz
      set_option maxRecDepth 100000 in
      go_wp2_with fail
      set_option maxRecDepth 100000 in
      go_region
      all_goals focus
        go_wp2_with fail
        refine bodyPost_ret (read_results _ _ w.heap.size _ _ _ rfl rfl rfl HFIN.out rfl) rfl ?_
        exact ⟨fun h => absurd hE h, fun _ => ⟨a, len, cap, rfl, HBY.out⟩, HP.out⟩
    · have hne : (E.fl != 0) = true := by simpa using hE
      have kc0 := cell_of_row w6 w.heap.size 0 _ _ _ hz
      have kz0 := frozen_of_row w6 w.heap.size 0 _ _ hz
      have ks0 := heap_setCell_same w6 w.heap.size 0 _ _ (.int .i64 0) hz
      simp only [List.setIfInBounds_toArray, List.set_cons_zero] at ks0
      simp at kc0
      have kc1 := cell_of_row (w6.setCell ⟨w.heap.size, 0, none⟩ (.int .i64 0)) w.heap.size 1 _ _ _ ks0
      have kz1 := frozen_of_row (w6.setCell ⟨w.heap.size, 0, none⟩ (.int .i64 0)) w.heap.size 1 _ _ ks0
      have ks1 := heap_setCell_same (w6.setCell ⟨w.heap.size, 0, none⟩ (.int .i64 0)) w.heap.size 1 _ _ (.bool false) ks0
      simp only [List.setIfInBounds_toArray, List.set_cons_zero, List.set_cons_succ] at ks1
      simp at kc1
      have kc2 := cell_of_row ((w6.setCell ⟨w.heap.size, 0, none⟩ (.int .i64 0)).setCell ⟨w.heap.size, 1, none⟩ (.bool false)) w.heap.size 2 _ _ _ ks1
      have kz2 := frozen_of_row ((w6.setCell ⟨w.heap.size, 0, none⟩ (.int .i64 0)).setCell ⟨w.heap.size, 1, none⟩ (.bool false)) w.heap.size 2 _ _ ks1
      have ks2 := heap_setCell_same ((w6.setCell ⟨w.heap.size, 0, none⟩ (.int .i64 0)).setCell ⟨w.heap.size, 1, none⟩ (.bool false)) w.heap.size 2 _ _ (.bool false) ks1
      simp only [List.setIfInBounds_toArray, List.set_cons_zero, List.set_cons_succ] at ks2
      simp at kc2
      have kc3 := cell_of_row (((w6.setCell ⟨w.heap.size, 0, none⟩ (.int .i64 0)).setCell ⟨w.heap.size, 1, none⟩ (.bool false)).setCell ⟨w.heap.size, 2, none⟩ (.bool false)) w.heap.size 3 _ _ _ ks2
      have kz3 := frozen_of_row (((w6.setCell ⟨w.heap.size, 0, none⟩ (.int .i64 0)).setCell ⟨w.heap.size, 1, none⟩ (.bool false)).setCell ⟨w.heap.size, 2, none⟩ (.bool false)) w.heap.size 3 _ _ ks2
      have ks3 := heap_setCell_same (((w6.setCell ⟨w.heap.size, 0, none⟩ (.int .i64 0)).setCell ⟨w.heap.size, 1, none⟩ (.bool false)).setCell ⟨w.heap.size, 2, none⟩ (.bool false)) w.heap.size 3 _ _ (.bool false) ks2
      simp only [List.setIfInBounds_toArray, List.set_cons_zero, List.set_cons_succ] at ks3
      simp at kc3
      have kc4 := cell_of_row ((((w6.setCell ⟨w.heap.size, 0, none⟩ (.int .i64 0)).setCell ⟨w.heap.size, 1, none⟩ (.bool false)).setCell ⟨w.heap.size, 2, none⟩ (.bool false)).setCell ⟨w.heap.size, 3, none⟩ (.bool false)) w.heap.size 4 _ _ _ ks3
      have kz4 := frozen_of_row ((((w6.setCell ⟨w.heap.size, 0, none⟩ (.int .i64 0)).setCell ⟨w.heap.size, 1, none⟩ (.bool false)).setCell ⟨w.heap.size, 2, none⟩ (.bool false)).setCell ⟨w.heap.size, 3, none⟩ (.bool false)) w.heap.size 4 _ _ ks3
      have ks4 := heap_setCell_same ((((w6.setCell ⟨w.heap.size, 0, none⟩ (.int .i64 0)).setCell ⟨w.heap.size, 1, none⟩ (.bool false)).setCell ⟨w.heap.size, 2, none⟩ (.bool false)).setCell ⟨w.heap.size, 3, none⟩ (.bool false)) w.heap.size 4 _ _ (.int .i64 0) ks3
      simp only [List.setIfInBounds_toArray, List.set_cons_zero, List.set_cons_succ] at ks4
      simp at kc4
      have kc5 := cell_of_row (((((w6.setCell ⟨w.heap.size, 0, none⟩ (.int .i64 0)).setCell ⟨w.heap.size, 1, none⟩ (.bool false)).setCell ⟨w.heap.size, 2, none⟩ (.bool false)).setCell ⟨w.heap.size, 3, none⟩ (.bool false)).setCell ⟨w.heap.size, 4, none⟩ (.int .i64 0)) w.heap.size 5 _ _ _ ks4
      have kz5 := frozen_of_row (((((w6.setCell ⟨w.heap.size, 0, none⟩ (.int .i64 0)).setCell ⟨w.heap.size, 1, none⟩ (.bool false)).setCell ⟨w.heap.size, 2, none⟩ (.bool false)).setCell ⟨w.heap.size, 3, none⟩ (.bool false)).setCell ⟨w.heap.size, 4, none⟩ (.int .i64 0)) w.heap.size 5 _ _ ks4
      have ks5 := heap_setCell_same (((((w6.setCell ⟨w.heap.size, 0, none⟩ (.int .i64 0)).setCell ⟨w.heap.size, 1, none⟩ (.bool false)).setCell ⟨w.heap.size, 2, none⟩ (.bool false)).setCell ⟨w.heap.size, 3, none⟩ (.bool false)).setCell ⟨w.heap.size, 4, none⟩ (.int .i64 0)) w.heap.size 5 _ _ (.slice none 0 0) ks4
      simp only [List.setIfInBounds_toArray, List.set_cons_zero, List.set_cons_succ] at ks5
      simp at kc5
      have hT : Tch [w.heap.size] w6 ((((((w6.setCell ⟨w.heap.size, 0, none⟩ (.int .i64 0)).setCell ⟨w.heap.size, 1, none⟩ (.bool false)).setCell ⟨w.heap.size, 2, none⟩ (.bool false)).setCell ⟨w.heap.size, 3, none⟩ (.bool false)).setCell ⟨w.heap.size, 4, none⟩ (.int .i64 0)).setCell ⟨w.heap.size, 5, none⟩ (.slice none 0 0)) := ((((((((Tch.refl [w.heap.size] w6).setK (by simp) _ _).setK (by simp) _ _).setK (by simp) _ _).setK (by simp) _ _).setK (by simp) _ _).setK (by simp) _ _))
      have p2 : ((((((w6.setCell ⟨w.heap.size, 0, none⟩ (.int .i64 0)).setCell ⟨w.heap.size, 1, none⟩ (.bool false)).setCell ⟨w.heap.size, 2, none⟩ (.bool false)).setCell ⟨w.heap.size, 3, none⟩ (.bool false)).setCell ⟨w.heap.size, 4, none⟩ (.int .i64 0)).setCell ⟨w.heap.size, 5, none⟩ (.slice none 0 0)).cell? ⟨g, 2, none⟩ = some (.int .i64 E.fl) := (hT.rd H6.out (by simp; omega)).c2
      have HP := Hid.mk (Tch.below HB6.out hT.drew (by simp) (Nat.le_refl _))
      have HFIN := Hid.mk (row_drew ks5)
      clear hT p2
      clear kc0 kz0 ks0 kc1 kz1 ks1 kc2 kz2 ks2 kc3 kz3 ks3 kc4 kz4 ks4 kc5 kz5 ks5 hz
      set_option maxRecDepth 100000 in
      go_wp2_with fail
      set_option maxRecDepth 100000 in
      go_region
      all_goals focus
        go_wp2_with fail
        refine bodyPost_ret (read_results _ _ w.heap.size _ _ _ rfl rfl rfl HFIN.out rfl) rfl ?_
        exact ⟨fun _ => rfl, fun h => absurd h hE, HP.out⟩
end Bw
end Go.Proofs.YthdhhmflfdbkhaaGreatDoor

/- What is sent is read: plain facts on lists; of no program. -/
namespace Go.Proofs.YthdhhmflfdbkhaaGreatDoor
namespace Bw
open Bm Cm

theorem unfix_fix (l : List UInt8) (a : UInt8) : ∀ i, i ≤ l.length → unfixL (fixR l a i) 0 = l.take i ∧ (fixR l a i).length = i + (i + 3) / 4
  | 0, _ => by simp [fixR, unfixL]
  | i + 1, h => by
    obtain ⟨h1, h2⟩ := unfix_fix l a i (by omega)
    have hs : ∀ (x : List UInt8) (j : Nat) (c : UInt8), unfixL (x ++ [c]) j = unfixL x j ++ (if (j + x.length) % 5 = 0 then [] else [c]) := by
      intro x
      induction x with
      | nil => intro j c; simp only [List.nil_append, unfixL, List.length_nil, Nat.add_zero]
      | cons d x ih =>
        intro j c
        rw [List.cons_append, unfixL, unfixL, ih, List.length_cons, show j + 1 + x.length = j + (x.length + 1) by omega]
        split <;> simp
    have ht : l.take (i + 1) = l.take i ++ [l.getD i 0] := take_snocL l i (by omega)
    rw [fixR]
    by_cases h4 : i % 4 = 0
    · rw [if_pos h4]
      refine ⟨?_, by simp [h2]; omega⟩
      rw [hs, hs, h1, ht, h2]
      have e1 : (0 + (i + (i + 3) / 4)) % 5 = 0 := by omega
      have e2 : ¬ (0 + (fixR l a i ++ [otb (fixP l a i)]).length) % 5 = 0 := by simp [h2]; omega
      rw [if_pos e1, if_neg e2]; simp
    · rw [if_neg h4]
      refine ⟨?_, by simp [h2]; omega⟩
      rw [hs, h1, ht, h2]
      have e2 : ¬ (0 + (i + (i + 3) / 4)) % 5 = 0 := by omega
      rw [if_neg e2]
theorem unfix_fixL (l : List UInt8) (a : UInt8) : unfixL (fixL l a) 0 = l := by
  unfold fixL
  rw [(unfix_fix l a l.length (Nat.le_refl _)).1, List.take_length]
theorem bytesL_ofL (l : List UInt8) : bytesL (ofL l) = l := by
  unfold bytesL
  rw [ofL_length, Nat.mul_div_cancel_left _ (by omega : 0 < 8)]
  apply List.ext_getElem
  · simp
  intro i h1 h2
  have hi : i < l.length := h2
  simp only [List.getElem_map, List.getElem_range]
  unfold byteAt
  rw [ofL_drop, List.drop_eq_getElem_cons hi, ofL_cons, List.take_append_of_le_length (by rw [bitsHead_length]; omega), List.take_of_length_le (by rw [bitsHead_length]; omega), val_row _ _ (by have := (l[i]).toNat_lt; omega)]
  exact UInt8.ofNat_toNat
theorem sizes_at {n : Nat} (h : n ∈ sizesL) : sizesL.getD (sizesL.idxOf n) 0 = n ∧ sizesL.idxOf n < 16 ∧ n ≤ 64 := by
  have : ∀ m ∈ sizesL, sizesL.getD (sizesL.idxOf m) 0 = m ∧ sizesL.idxOf m < 16 ∧ m ≤ 64 := by decide +kernel
  exact this n h
theorem sizes_small {n : Nat} (h : n ≤ 8) : sizesL.getD n 0 = n := by
  have : ∀ m : Fin 9, sizesL.getD m 0 = m := by decide +kernel
  exact this ⟨n, by omega⟩
/-- what is read ahead of the form -/
theorem name_back (f : Fr) (T r t : List UInt8) (hE : frE f = 0) (hT : T = ([48] ++ nameL f) ++ t) (hrow : rowB T = true) :
    nameP (putF T ++ r) ⟨0, 0, []⟩ = ⟨stP ([48] ++ nameL f), f.id.toNat, f.lo, f.re⟩ := by
  obtain ⟨e1, e2, -⟩ := frE_ok hE
  unfold nameL at hT ⊢
  cases hlo : f.lo
  · rw [hlo] at hT e2
    have hid : f.id.toNat < 2 ^ 11 := by simp [topI] at e2; omega
    simp only [Bool.false_eq_true, if_false] at hT ⊢
    rw [name_short T r t f.id.toNat f.re hid (by rw [hT]; simp) hrow]
    simp
  · rw [hlo] at hT e2
    have hid : f.id.toNat < 2 ^ 29 := by simp [topI] at e2; omega
    simp only [if_true] at hT ⊢
    have hv := val_row f.id.toNat 29 hid
    have hd : ((bitsHead f.id.toNat 29 29).drop 11).length = 18 := by simp [bitsHead_length]
    rw [← List.take_append_drop 11 (bitsHead f.id.toNat 29 29), val_append, hd] at hv
    rw [name_long T r t ((bitsHead f.id.toNat 29 29).take 11) ((bitsHead f.id.toNat 29 29).drop 11) f.id.toNat f.re (by simp [bitsHead_length]) hd hv (by rw [hT]; simp) hrow]
    simp
theorem form_back (f : Fr) (T r p t : List UInt8) (hE : frE f = 0) (hT : T = p ++ (midL f ++ t)) (hrow : rowB T = true) :
    formP (putF T ++ r) (stP p) f.lo f.re = (stP (p ++ midL f), f.fa) := by
  obtain ⟨-, -, e3, -⟩ := frE_ok hE
  unfold formP
  unfold midL at hT ⊢
  cases hfa : f.fa
  · rw [hfa] at hT
    cases hlo : f.lo
    · rw [hlo] at hT
      simp only [Bool.false_eq_true, if_false] at hT ⊢
      rw [takeP_put T r p [48] t 1 hT hrow rfl, if_neg (by simp)]
    · rw [hlo] at hT
      simp only [Bool.false_eq_true, if_false, if_true] at hT ⊢
      rw [takeP_put T r p [48] ([48] ++ t) 1 (by rw [hT]; simp) hrow rfl, if_neg (by simp)]
      have h2 : wantP (putF T ++ r) (stP (p ++ [48])) [48] = stP (p ++ [48] ++ [48]) := wstep_put T r (p ++ [48]) t 48 (by rw [hT]; simp) hrow
      simp only [h2]
      simp
  · rw [hfa] at hT e3
    have hre : f.re = false := by
      cases h : f.re
      · rfl
      · exact absurd (e3 h).1 (by decide)
    simp only [if_true] at hT ⊢
    rw [takeP_put T r p [49] ([48, 49, 48] ++ t) 1 (by rw [hT]; simp) hrow rfl, if_pos rfl, hre]
    have h2 : wantP (putF T ++ r) (stP (p ++ [49])) [48, 49, 48] = stP (p ++ [49] ++ [48] ++ [49] ++ [48]) := by
      show wstep _ (wstep _ (wstep _ _ 48) 49) 48 = _
      rw [wstep_put T r (p ++ [49]) ([49, 48] ++ t) 48 (by rw [hT]; simp) hrow, wstep_put T r (p ++ [49] ++ [48]) ([48] ++ t) 49 (by rw [hT]; simp) hrow, wstep_put T r (p ++ [49] ++ [48] ++ [49]) t 48 (by rw [hT]; simp) hrow]
    simp only [h2]
    simp
theorem data_back (f : Fr) (T r p t : List UInt8) (hE : frE f = 0) (hT : T = p ++ (bitsHead (codeN f) 4 4 ++ (ofL f.dt ++ t))) (hrow : rowB T = true) :
    dataP (putF T ++ r) (stP p) f.fa f.re = ⟨stP (p ++ bitsHead (codeN f) 4 4 ++ ofL f.dt), f.sz.toNat, f.dt⟩ := by
  obtain ⟨-, -, e3, e4, e5, e6, e7, e8, e9⟩ := frE_ok hE
  have hsz := sizes_at e9
  have hcode : codeN f < 2 ^ 4 := by
    unfold codeN
    split
    · omega
    · exact hsz.2.1
  have hn : numP (putF T ++ r) (stP p) 4 = (codeN f, stP (p ++ bitsHead (codeN f) 4 4)) := by
    rw [numP_put T r p (bitsHead (codeN f) 4 4) _ 4 hT hrow (bitsHead_length _ _ _), val_row _ _ hcode]
  have hd : dtN (putF T ++ r) (stP p) = sizesL.getD (codeN f) 0 := by unfold dtN; rw [hn]
  cases hre : f.re
  · have hc : codeN f = sizesL.idxOf f.dt.length := by unfold codeN; rw [hre]; rfl
    have hdn : dtN (putF T ++ r) (stP p) = f.dt.length := by rw [hd, hc]; exact hsz.1
    have h2 : dt2 (putF T ++ r) (stP p) f.fa = stP (p ++ bitsHead (codeN f) 4 4) := by
      unfold dt2
      rw [hdn, hn, if_neg]
      unfold topD
      cases hfa : f.fa
      · have := e8 hfa; simp; omega
      · simp; omega
    unfold dataP
    rw [h2, hdn, takeP_put T r (p ++ bitsHead (codeN f) 4 4) (ofL f.dt) t (8 * f.dt.length) (by rw [hT]; simp) hrow (ofL_length _), bytesL_ofL, e6 hre]
    rfl
  · have hc : codeN f = f.sz.toNat := by unfold codeN; rw [hre]; rfl
    obtain ⟨hfa, hdt⟩ := e3 hre
    have hdn : dtN (putF T ++ r) (stP p) = f.sz.toNat := by rw [hd, hc]; exact sizes_small (by omega)
    have h2 : dt2 (putF T ++ r) (stP p) f.fa = stP (p ++ bitsHead (codeN f) 4 4) := by
      unfold dt2
      rw [hdn, hn, if_neg]
      unfold topD
      rw [hfa]; simp; omega
    have hnil : f.dt = [] := List.eq_nil_of_length_eq_zero hdt
    unfold dataP
    rw [h2, hdn, hnil]
    simp [ofL]
/-- a frame's bits ahead of the last ten -/
def preL (f : Fr) : List UInt8 := if f.fa then putF (headL f) ++ fastL (headL f) (putF (headL f)) f.dt.length else putF (headL f ++ sumL 0 (headL f))
theorem bitsL_pre (f : Fr) : bitsL f = preL f ++ onesL := by unfold bitsL preL; split <;> rfl
theorem end_back (x e rest o : List UInt8) (he : e = onesL ∨ e = heardL) : endP (x ++ (e ++ rest)) ⟨0, x.length, o⟩ = ⟨0, x.length + 10, o⟩ := by
  have hl : e.length = 10 := by rcases he with rfl | rfl <;> rfl
  have h : nextP (x ++ (e ++ rest)) ⟨0, x.length, o⟩ 10 = (e, ⟨0, x.length + 10, o⟩) := by
    unfold nextP
    simp only
    rw [if_pos trivial, if_neg (by simp; omega), List.drop_left, ← hl, List.take_left]
  unfold endP
  rw [h, if_pos he]
theorem read_back (f : Fr) (e rest : List UInt8) (hE : frE f = 0) (he : e = onesL ∨ e = heardL) :
    (rdE (preL f ++ (e ++ rest))).fl = 0 ∧ (rdE (preL f ++ (e ++ rest))).u = (preL f).length + 10 ∧ rdF (preL f ++ (e ++ rest)) = f := by
  obtain ⟨e1, -, -, e4, -⟩ := frE_ok hE
  have hh : headL f = ([48] ++ nameL f) ++ (midL f ++ (bitsHead (codeN f) 4 4 ++ ofL f.dt)) := by unfold headL; simp
  have hp : [48] ++ nameL f ++ midL f ++ bitsHead (codeN f) 4 4 ++ ofL f.dt = headL f := rfl
  cases hfa : f.fa
  · have hb : preL f ++ (e ++ rest) = putF (headL f ++ sumL 0 (headL f)) ++ (e ++ rest) := by unfold preL; rw [hfa]; rfl
    have hrow : rowB (headL f ++ sumL 0 (headL f)) = true := by rw [rowB_append, headL_row, sumL_row]; rfl
    have hpl : preL f = putF (headL f ++ sumL 0 (headL f)) := by unfold preL; rw [hfa]; rfl
    rw [hb]
    have hA : rdA (putF (headL f ++ sumL 0 (headL f)) ++ (e ++ rest)) = ⟨stP ([48] ++ nameL f), f.id.toNat, f.lo, f.re⟩ :=
      name_back f _ _ ((midL f ++ (bitsHead (codeN f) 4 4 ++ ofL f.dt)) ++ sumL 0 (headL f)) hE (by rw [hh]; simp only [List.append_assoc]) hrow
    have hB : rdB (putF (headL f ++ sumL 0 (headL f)) ++ (e ++ rest)) = (stP ([48] ++ nameL f ++ midL f), f.fa) := by
      unfold rdB
      rw [hA]
      exact form_back f _ _ _ ((bitsHead (codeN f) 4 4 ++ ofL f.dt) ++ sumL 0 (headL f)) hE (by rw [hh]; simp only [List.append_assoc]) hrow
    have hD : rdD (putF (headL f ++ sumL 0 (headL f)) ++ (e ++ rest)) = ⟨stP (headL f), f.sz.toNat, f.dt⟩ := by
      unfold rdD
      rw [hA, hB, ← hp]
      exact data_back f _ _ _ (sumL 0 (headL f)) hE (by rw [hh]; simp only [List.append_assoc]) hrow
    have hS : rdS (putF (headL f ++ sumL 0 (headL f)) ++ (e ++ rest)) = stP (headL f ++ sumL 0 (headL f)) := by
      unfold rdS
      rw [hB, hD, hfa]
      simp only [Bool.false_eq_true, if_false]
      unfold sumP
      rw [takeP_put _ _ (headL f) (sumL 0 (headL f)) [] 15 (by simp) hrow (sumL_len _ _)]
      rw [if_pos (show sumL 0 (headL f) = sumL 0 (stP (headL f)).o from rfl)]
    have hEe : rdE (putF (headL f ++ sumL 0 (headL f)) ++ (e ++ rest)) = ⟨0, (preL f).length + 10, headL f ++ sumL 0 (headL f)⟩ := by
      unfold rdE
      rw [hS, hpl]
      exact end_back _ e rest _ he
    refine ⟨by rw [hEe], by rw [hEe], ?_⟩
    unfold rdF
    rw [hA, hB, hD]
    simp only [Int.toNat_of_nonneg e1, Int.toNat_of_nonneg e4]
  · have hpl : preL f = putF (headL f) ++ fastL (headL f) (putF (headL f)) f.dt.length := by unfold preL; rw [hfa]; rfl
    have hb : preL f ++ (e ++ rest) = putF (headL f) ++ (fastL (headL f) (putF (headL f)) f.dt.length ++ (e ++ rest)) := by rw [hpl, List.append_assoc]
    have hrow : rowB (headL f) = true := headL_row f
    have hb0 := hb
    rw [hb]
    generalize hrr : fastL (headL f) (putF (headL f)) f.dt.length ++ (e ++ rest) = rr at *
    have hA : rdA (putF (headL f) ++ rr) = ⟨stP ([48] ++ nameL f), f.id.toNat, f.lo, f.re⟩ :=
      name_back f _ _ (midL f ++ (bitsHead (codeN f) 4 4 ++ ofL f.dt)) hE hh hrow
    have hB : rdB (putF (headL f) ++ rr) = (stP ([48] ++ nameL f ++ midL f), f.fa) := by
      unfold rdB
      rw [hA]
      exact form_back f _ _ _ (bitsHead (codeN f) 4 4 ++ ofL f.dt) hE (by rw [hh]) hrow
    have hD : rdD (putF (headL f) ++ rr) = ⟨stP (headL f), f.sz.toNat, f.dt⟩ := by
      unfold rdD
      rw [hA, hB, ← hp]
      exact data_back f _ _ _ [] hE (by simp only [List.append_assoc, List.append_nil]) hrow
    have htk : (putF (headL f) ++ rr).take (putF (headL f)).length = putF (headL f) := List.take_left
    have hnx : nextP (putF (headL f) ++ rr) (stP (headL f)) (fastL (headL f) (putF (headL f)) f.dt.length).length = (fastL (headL f) (putF (headL f)) f.dt.length, ⟨0, (preL f).length, headL f⟩) := by
      unfold nextP stP
      simp only
      rw [if_pos trivial, if_neg (by rw [← hrr]; simp), List.drop_left, ← hrr, List.take_left, hpl, List.length_append]
    have hS : rdS (putF (headL f) ++ rr) = ⟨0, (preL f).length, headL f⟩ := by
      unfold rdS
      rw [hB, hD, hfa]
      simp only [if_true]
      unfold fixedP
      rw [if_pos (show (stP (headL f)).fl = 0 from rfl), show (stP (headL f)).u = (putF (headL f)).length from rfl, show (stP (headL f)).o = headL f from rfl, htk, hnx]
      simp only
      rw [if_pos, if_pos trivial]
      show _ = fixL (unfixL (fixL _ _) 0) _
      rw [unfix_fixL]
      rfl
    have hEe : rdE (putF (headL f) ++ rr) = ⟨0, (preL f).length + 10, headL f⟩ := by
      unfold rdE
      rw [hS, ← hb0]
      exact end_back _ e rest _ he
    refine ⟨by rw [hEe], by rw [hEe], ?_⟩
    unfold rdF
    rw [hA, hB, hD]
    simp only [Int.toNat_of_nonneg e1, Int.toNat_of_nonneg e4]
end Bw
end Go.Proofs.YthdhhmflfdbkhaaGreatDoor

/- What is sent is read by frame.Read, whatever follows. -/
namespace Go.Proofs.YthdhhmflfdbkhaaGreatDoor
open Go.ChangeShapes Go.WideShapes Go.ChangeAt Go.RowKit
namespace Bw
open Bm Cm

theorem fixR_row (l : List UInt8) (a : UInt8) (hl : rowB l = true) : ∀ i, i ≤ l.length → rowB (fixR l a i) = true
  | 0, _ => rfl
  | i + 1, h => by
    have ih := fixR_row l a hl i (by omega)
    have hb : bit (l.getD i 0) = true := by
      have hi : i < l.length := by omega
      rw [List.getD, List.getElem?_eq_getElem hi, Option.getD_some]
      exact rowB_all.1 hl _ (List.getElem_mem hi)
    rw [fixR, rowB_snoc, hb, Bool.and_true]
    split
    · rw [rowB_snoc, ih, otb_bit]; rfl
    · exact ih
theorem fixedL_row (p : List UInt8) (q n : Nat) : rowB (fixedL p q n) = true := by
  unfold fixedL fixL
  exact fixR_row _ _ (by rw [rowB_append, (gray_row _ (Nat.mod_lt _ (by omega))).1, sumL_row]; rfl) _ (Nat.le_refl _)
theorem preL_row (f : Fr) : rowB (preL f) = true := by
  unfold preL
  split
  · rw [rowB_append, putF_row _ (headL_row f), fastL_fixed, fixedL_row]; rfl
  · exact putF_row _ (by rw [rowB_append, headL_row, sumL_row]; rfl)
theorem preL_len (f : Fr) (hE : frE f = 0) : 1 ≤ (preL f).length ∧ (preL f).length ≤ 750 := by
  obtain ⟨-, -, -, -, -, -, e7, e8, -⟩ := frE_ok hE
  obtain ⟨h1, h2⟩ := headL_le f e7
  unfold preL
  split
  · obtain ⟨k, hk1, hk2⟩ := putF_most (headL f) (headL_row f)
    rw [List.length_append, fastL_fixed, fixedL_len]
    split <;> omega
  · obtain ⟨k, hk1, hk2⟩ := putF_most (headL f ++ sumL 0 (headL f)) (by rw [rowB_append, headL_row, sumL_row]; rfl)
    have hs : (sumL 0 (headL f)).length = 15 := sumL_len 0 _
    rw [List.length_append, hs] at hk1 hk2
    omega
theorem bitsL_len (f : Fr) : (bitsL f).length = (preL f).length + 10 := by rw [bitsL_pre, List.length_append]; rfl
theorem bitsL_row (f : Fr) : rowB (bitsL f) = true := by rw [bitsL_pre, rowB_append, preL_row]; rfl

theorem readBack_any (f : Fr) (e rest : List UInt8) (T : ByteArray) (w : World) (hS : SizesAt w) (hR : RulesAt w) (hE : frE f = 0) (he : e = onesL ∨ e = heardL) (hT : T.data.toList = preL f ++ (e ++ rest)) (hr : rowB rest = true) (hn : T.size ≤ 1000) :
    Calls Tryz.prog 6 #[.string T] w fun x w' => ∃ a len cap, x = .returned (.tuple #[frameV f.id f.lo f.fa f.re f.sz a len cap, .int .i64 ((preL f).length + 10 : Nat), .int .i64 0]) ∧ IsBytes w' a len cap f.dt ∧ Below w.heap.size w w' := by
  have her : rowB e = true := by rcases he with rfl | rfl <;> rfl
  have hrow : rowB T.data.toList = true := by rw [hT, rowB_append, rowB_append, preL_row, her, hr]; rfl
  have hl : T.data.toList.length = T.size := by simp
  have hc := checkE_row hrow (by omega)
  obtain ⟨b1, b2, b3⟩ := read_back f e rest hE he
  rw [← hT] at b1 b2 b3
  refine (read_ok T w hS hR hc).mono ?_
  rintro x w' ⟨-, h2, h3⟩
  obtain ⟨a, len, cap, hx, hby⟩ := h2 b1
  rw [b2, b3] at hx
  rw [b3] at hby
  exact ⟨a, len, cap, hx, hby, h3⟩
end Bw
end Go.Proofs.YthdhhmflfdbkhaaGreatDoor

/- A row of bytes that was made of a text: its cells, a cell written anew, and the text that is made of it. -/
namespace Go.Proofs.YthdhhmflfdbkhaaGreatDoor
open Go.ChangeShapes Go.WideShapes Go.ChangeAt Go.RowKit
namespace Bw
open Bm

/-- block g begins with the bytes l, and each may be written -/
def ConvAt (w : World) (g : Nat) (l : List UInt8) : Prop := g < w.heap.size ∧ ∀ j, j < l.length → w.cell? ⟨g, j, none⟩ = some (.int .u8 (l.getD j 0).toNat) ∧ w.frozen? ⟨g, j, none⟩ = false
theorem getD_at {l : List UInt8} {j : Nat} (h : j < l.length) : l.getD j 0 = l[j] := by simp [List.getD, h]
/-- the world behind the making -/
def convW (w : World) (s : ByteArray) : World := w.drew.alloc (.cells (bytesRow s (grownCap w s.size 0 5)) 5 ((bytesRow s (grownCap w s.size 0 5)).size, (bytesRow s (grownCap w s.size 0 5)).size + 1))
theorem conv_run (w : World) (s : ByteArray) : (convert 9 22 (.string s)).run Tryz.prog w = .ok (.slice (some ⟨w.heap.size, 0, none⟩) s.size (grownCap w s.size 0 5)) (convW w s) :=
  run_bytes_of_string w 9 22 5 s Tryz.underlying9 Tryz.underlying22 Tryz.underlying5
theorem conv_new (w : World) (s : ByteArray) : ConvAt (convW w s) w.heap.size s.data.toList := by
  refine ⟨by unfold convW; simp, fun j hj => ?_⟩
  have hj' : j < s.data.size := by simpa using hj
  have hj2 : j < s.size := hj'
  have h1 := World.cell?_alloc_mark w.drew (bytesRow s (grownCap w s.size 0 5)) 5 ((bytesRow s (grownCap w s.size 0 5)).size, (bytesRow s (grownCap w s.size 0 5)).size + 1) j
  have h2 := World.frozen?_alloc_mark w.drew (bytesRow s (grownCap w s.size 0 5)) 5 (bytesRow s (grownCap w s.size 0 5)).size ((bytesRow s (grownCap w s.size 0 5)).size + 1) j
  refine ⟨?_, ?_⟩
  · refine Eq.trans h1 ?_
    rw [bytesRow_at s _ j hj', getD_at hj]
    simp
  · refine Eq.trans h2 ?_
    have : j < (bytesRow s (grownCap w s.size 0 5)).size := by unfold bytesRow; simp; omega
    have e : decide ((bytesRow s (grownCap w s.size 0 5)).size ≤ j) = false := by simp; omega
    rw [e]; rfl
theorem conv_below (w : World) (s : ByteArray) : Below w.heap.size w (convW w s) := ((Below.refl w.heap.size w).drew).alloc (by simp) _
theorem ConvAt.kept {w w' : World} {g : Nat} {l : List UInt8} (h : ConvAt w g l) (hb : Below w.heap.size w w') : ConvAt w' g l :=
  ⟨Nat.lt_of_lt_of_le h.1 hb.size, fun j hj => ⟨by rw [hb.cell h.1]; exact (h.2 j hj).1, by rw [hb.frozen h.1]; exact (h.2 j hj).2⟩⟩
theorem ConvAt.set {w : World} {g : Nat} {l : List UInt8} (h : ConvAt w g l) (j : Nat) (hj : j < l.length) (c : UInt8) : ConvAt (w.setCell ⟨g, j, none⟩ (.int .u8 c.toNat)) g (l.set j c) := by
  refine ⟨by simpa [World.setCell] using h.1, fun i hi => ?_⟩
  rw [List.length_set] at hi
  refine ⟨?_, by rw [World.frozen?_setCell]; exact (h.2 i hi).2⟩
  by_cases e : j = i
  · subst e
    rw [World.cell?_setCell_same _ _ _ (h.2 j hj).1]
    simp [List.getD, hj]
  · rw [World.cell?_setCell_other _ _ _ _ (by intro h; injection h with _ h; exact e h), (h.2 i hi).1]
    simp [List.getD, e]
theorem ConvAt.back {w : World} {g : Nat} {l : List UInt8} (h : ConvAt w g l) (cap n : Nat) (hn : l.length = n) : (convert 22 9 (.slice (some ⟨g, 0, none⟩) n cap)).run Tryz.prog w = .ok (.string ⟨l.toArray⟩) w := by
  have := run_convert_bytes_back w 22 9 5 ⟨g, 0, none⟩ cap l Tryz.underlying22 Tryz.underlying5 Tryz.underlying9 (fun j hj => by
    have e : (Addr.add ⟨g, 0, none⟩ j) = ⟨g, j, none⟩ := by simp [Addr.add]; exact fun h => h.symm
    rw [e, (h.2 j hj).1, getD_at hj])
  rw [hn] at this
  exact this
theorem xor_one (c : UInt8) : bits .xor .u8 (c.toNat : Int) 1 = (((c ^^^ 1 : UInt8).toNat : Nat) : Int) := by
  have h := u8_xor_nat c.toNat 1 (UInt8.toNat_lt c) (by omega)
  rw [UInt8.toNat_xor]
  exact h
end Bw
end Go.Proofs.YthdhhmflfdbkhaaGreatDoor

/- A row with some of its bits turned: plain facts on lists; of no program. -/
namespace Go.Proofs.YthdhhmflfdbkhaaGreatDoor
namespace Bw
open Bm
/-- a row of which the bits at the first k of these places come turned -/
def turnK (b : List UInt8) (at_ : List Int) : Nat → List UInt8
  | 0 => b
  | k + 1 => (turnK b at_ k).set (at_.getD k 0).toNat (otb ((turnK b at_ k).getD (at_.getD k 0).toNat 0))
theorem turnK_len (b : List UInt8) (at_ : List Int) : ∀ k, (turnK b at_ k).length = b.length
  | 0 => rfl
  | k + 1 => by rw [turnK, List.length_set, turnK_len b at_ k]
theorem bit_ot (c : UInt8) : bit (otb c) = true := by
  unfold otb; split <;> decide
theorem turnK_row (b : List UInt8) (at_ : List Int) (hb : rowB b = true) : ∀ k, rowB (turnK b at_ k) = true
  | 0 => hb
  | k + 1 => by
    have ih := turnK_row b at_ hb k
    rw [turnK]
    unfold rowB at ih ⊢
    rw [List.all_eq_true] at ih ⊢
    intro x hx
    rcases List.mem_or_eq_of_mem_set hx with h | h
    · exact ih x h
    · rw [h]; exact bit_ot _
theorem set_parts (l : List UInt8) (i : Nat) (c : UInt8) (h : i < l.length) : l.set i c = l.take i ++ c :: l.drop (i + 1) := by
  rw [List.set_eq_take_append_cons_drop, if_pos h]
/-- all of these are places of a row so long -/
def inAll (n : Nat) (at_ : List Int) : Bool := at_.all fun i => decide (0 ≤ i) && decide (i < n)
/-- the first k are -/
def inK (n : Nat) (at_ : List Int) (k : Nat) : Prop := ∀ j, j < k → 0 ≤ at_.getD j 0 ∧ at_.getD j 0 < n
theorem inK_next {n : Nat} {at_ : List Int} {k : Nat} (h : inK n at_ k) (h0 : 0 ≤ at_.getD k 0) (h1 : at_.getD k 0 < n) : inK n at_ (k + 1) := by
  intro j hj
  rcases Nat.lt_or_ge j k with hx | hx
  · exact h j hx
  · have : j = k := by omega
    subst this; exact ⟨h0, h1⟩
theorem inAll_of {n : Nat} {at_ : List Int} (h : inK n at_ at_.length) : inAll n at_ = true := by
  unfold inAll
  rw [List.all_eq_true]
  intro x hx
  obtain ⟨j, hj, rfl⟩ := List.getElem_of_mem hx
  have := h j hj
  rw [show at_.getD j 0 = at_[j] by simp [List.getD, hj]] at this
  simpa using this
theorem inAll_not {n : Nat} {at_ : List Int} {k : Nat} (hk : k < at_.length) (h : ¬ (0 ≤ at_.getD k 0 ∧ at_.getD k 0 < n)) : inAll n at_ = false := by
  rcases Bool.eq_false_or_eq_true (inAll n at_) with hx | hx
  · exfalso
    unfold inAll at hx
    rw [List.all_eq_true] at hx
    have := hx at_[k] (List.getElem_mem hk)
    rw [show at_.getD k 0 = at_[k] by simp [List.getD, hk]] at h
    exact h (by simpa using this)
  · exact hx
end Bw
end Go.Proofs.YthdhhmflfdbkhaaGreatDoor

/- Bytes lie apart from a frame's own block. -/
namespace Go.Proofs.YthdhhmflfdbkhaaGreatDoor
open Go.ChangeShapes Go.WideShapes Go.ChangeAt Go.RowKit
namespace Bw
open Bm
theorem isBytes_apart {w w' : World} {a : Option Addr} {len cap g : Nat} {l : List UInt8} {cs : Array Value} {t : TypeId} {fr : Nat × Nat} (hb : IsBytes w a len cap l) (hz : w.heap[g]? = some (.cells cs t fr)) (hn : ∀ (j : Nat) (v : Value), cs[j]? = some v → ∀ n, v ≠ Value.int .u8 n) (ht : Tch [g] w w') : IsBytes w' a len cap l := by
  refine ⟨hb.1, hb.2.1, hb.2.2.1, hb.2.2.2.1, fun x hx i hi => ?_⟩
  have hv := hb.2.2.2.2 x hx i hi
  have hlt := block_lt_of_cell hv
  have hne : (x.add i).block ∉ [g] := by
    intro hm
    have he : (x.add i).block = g := by simpa using hm
    unfold World.cell? at hv
    rw [he, hz] at hv
    simp at hv
    exact hn _ _ hv.2 _ rfl
  unfold World.cell? at hv ⊢
  rw [ht.block _ hlt hne]
  exact hv
theorem frame_apart : ∀ (j : Nat) (v : Value), (#[Value.int .i64 0, .bool false, .bool false, .bool false, .int .i64 0, .slice none 0 0] : Array Value)[j]? = some v → ∀ n, v ≠ Value.int .u8 n := by
  intro j v h n
  match j, h with
  | 0, h => cases h; intro e; cases e
  | 1, h => cases h; intro e; cases e
  | 2, h => cases h; intro e; cases e
  | 3, h => cases h; intro e; cases e
  | 4, h => cases h; intro e; cases e
  | 5, h => cases h; intro e; cases e
  | k + 6, h => simp at h
end Bw
end Go.Proofs.YthdhhmflfdbkhaaGreatDoor
