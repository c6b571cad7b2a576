/- What the reader's methods readName and readForm do. -/
import Derived.Test.YtfomempleaceiaaDoorC4
import Derived.Test.YtfomempleaceiaaDoorC5
import Derived.Deep.RegionWith
import Derived.BigQuiet
import Derived.Lib.QuietBelow
import Derived.Test.YtfomempleaceiaaDoorC3
namespace Go.Proofs.YtfomempleaceiaaDoor
open Go.ChangeShapes Go.WideShapes Go.ChangeAt Go.RowKit
namespace Bw
open Bm Cm Go.Sort

/-- what a reader knows of the frame -/
structure Fd where
  id : Int
  lo : Bool
  fa : Bool
  re : Bool
  sz : Int
  d : Value
/-- block g holds a reader -/
def RdAt (w : World) (g : Nat) (b : ByteArray) (S : RS) (F : Fd) : Prop :=
  w.heap[g]? = some (.cells #[.string b, .int .i64 S.u, .int .i64 S.fl, .string ⟨S.o.toArray⟩, .int .i64 F.id, .bool F.lo, .bool F.fa, .bool F.re, .int .i64 F.sz, F.d] 67 (0, 0))
theorem RdAt.lt {w : World} {g : Nat} {b : ByteArray} {S : RS} {F : Fd} (h : RdAt w g b S F) : g < w.heap.size := by
  rcases Nat.lt_or_ge g w.heap.size with h' | h'
  · exact h'
  · unfold RdAt at h; rw [Array.getElem?_eq_none h'] at h; cases h
theorem RdAt.kept {w w' : World} {g : Nat} {b : ByteArray} {S : RS} {F : Fd} (h : RdAt w g b S F) (hb : Below w.heap.size w w') : RdAt w' g b S F := by
  unfold RdAt; rw [hb.block g h.lt]; exact h
theorem RdAt.cell {w : World} {g : Nat} {b : ByteArray} {S : RS} {F : Fd} (h : RdAt w g b S F) (k : Nat) : w.cell? ⟨g, k, none⟩ = #[.string b, .int .i64 S.u, .int .i64 S.fl, .string ⟨S.o.toArray⟩, .int .i64 F.id, .bool F.lo, .bool F.fa, .bool F.re, .int .i64 F.sz, F.d][k]? := cell_of_row w g k _ _ _ h
theorem RdAt.c0 {w : World} {g : Nat} {b : ByteArray} {S : RS} {F : Fd} (h : RdAt w g b S F) : w.cell? ⟨g, 0, none⟩ = some (.string b) := h.cell 0
theorem RdAt.c1 {w : World} {g : Nat} {b : ByteArray} {S : RS} {F : Fd} (h : RdAt w g b S F) : w.cell? ⟨g, 1, none⟩ = some (.int .i64 S.u) := h.cell 1
theorem RdAt.c2 {w : World} {g : Nat} {b : ByteArray} {S : RS} {F : Fd} (h : RdAt w g b S F) : w.cell? ⟨g, 2, none⟩ = some (.int .i64 S.fl) := h.cell 2
theorem RdAt.c3 {w : World} {g : Nat} {b : ByteArray} {S : RS} {F : Fd} (h : RdAt w g b S F) : w.cell? ⟨g, 3, none⟩ = some (.string ⟨S.o.toArray⟩) := h.cell 3
theorem RdAt.c4 {w : World} {g : Nat} {b : ByteArray} {S : RS} {F : Fd} (h : RdAt w g b S F) : w.cell? ⟨g, 4, none⟩ = some (.int .i64 F.id) := h.cell 4
theorem RdAt.c5 {w : World} {g : Nat} {b : ByteArray} {S : RS} {F : Fd} (h : RdAt w g b S F) : w.cell? ⟨g, 5, none⟩ = some (.bool F.lo) := h.cell 5
theorem RdAt.c6 {w : World} {g : Nat} {b : ByteArray} {S : RS} {F : Fd} (h : RdAt w g b S F) : w.cell? ⟨g, 6, none⟩ = some (.bool F.fa) := h.cell 6
theorem RdAt.c7 {w : World} {g : Nat} {b : ByteArray} {S : RS} {F : Fd} (h : RdAt w g b S F) : w.cell? ⟨g, 7, none⟩ = some (.bool F.re) := h.cell 7
theorem RdAt.c8 {w : World} {g : Nat} {b : ByteArray} {S : RS} {F : Fd} (h : RdAt w g b S F) : w.cell? ⟨g, 8, none⟩ = some (.int .i64 F.sz) := h.cell 8
theorem RdAt.c9 {w : World} {g : Nat} {b : ByteArray} {S : RS} {F : Fd} (h : RdAt w g b S F) : w.cell? ⟨g, 9, none⟩ = some F.d := h.cell 9
theorem RdAt.z {w : World} {g : Nat} {b : ByteArray} {S : RS} {F : Fd} (h : RdAt w g b S F) (k : Nat) : w.frozen? ⟨g, k, none⟩ = false := frozen_of_row w g k _ _ h
theorem RdAt.setU {w : World} {g : Nat} {b : ByteArray} {S : RS} {F : Fd} (h : RdAt w g b S F) (n : Nat) : RdAt (w.setCell ⟨g, 1, none⟩ (.int .i64 n)) g b ⟨S.fl, n, S.o⟩ F := heap_setCell_same w g 1 _ _ _ h
theorem RdAt.setFl {w : World} {g : Nat} {b : ByteArray} {S : RS} {F : Fd} (h : RdAt w g b S F) (e : Int) : RdAt (w.setCell ⟨g, 2, none⟩ (.int .i64 e)) g b ⟨e, S.u, S.o⟩ F := heap_setCell_same w g 2 _ _ _ h
theorem RdAt.setO {w : World} {g : Nat} {b : ByteArray} {S : RS} {F : Fd} (h : RdAt w g b S F) (o : List UInt8) : RdAt (w.setCell ⟨g, 3, none⟩ (.string ⟨o.toArray⟩)) g b ⟨S.fl, S.u, o⟩ F := heap_setCell_same w g 3 _ _ _ h
theorem RdAt.setId {w : World} {g : Nat} {b : ByteArray} {S : RS} {F : Fd} (h : RdAt w g b S F) (x : Int) : RdAt (w.setCell ⟨g, 4, none⟩ (.int .i64 x)) g b S ⟨x, F.lo, F.fa, F.re, F.sz, F.d⟩ := heap_setCell_same w g 4 _ _ _ h
theorem RdAt.setLo {w : World} {g : Nat} {b : ByteArray} {S : RS} {F : Fd} (h : RdAt w g b S F) (x : Bool) : RdAt (w.setCell ⟨g, 5, none⟩ (.bool x)) g b S ⟨F.id, x, F.fa, F.re, F.sz, F.d⟩ := heap_setCell_same w g 5 _ _ _ h
theorem RdAt.setFa {w : World} {g : Nat} {b : ByteArray} {S : RS} {F : Fd} (h : RdAt w g b S F) (x : Bool) : RdAt (w.setCell ⟨g, 6, none⟩ (.bool x)) g b S ⟨F.id, F.lo, x, F.re, F.sz, F.d⟩ := heap_setCell_same w g 6 _ _ _ h
theorem RdAt.setRe {w : World} {g : Nat} {b : ByteArray} {S : RS} {F : Fd} (h : RdAt w g b S F) (x : Bool) : RdAt (w.setCell ⟨g, 7, none⟩ (.bool x)) g b S ⟨F.id, F.lo, F.fa, x, F.sz, F.d⟩ := heap_setCell_same w g 7 _ _ _ h
theorem RdAt.setSz {w : World} {g : Nat} {b : ByteArray} {S : RS} {F : Fd} (h : RdAt w g b S F) (x : Int) : RdAt (w.setCell ⟨g, 8, none⟩ (.int .i64 x)) g b S ⟨F.id, F.lo, F.fa, F.re, x, F.d⟩ := heap_setCell_same w g 8 _ _ _ h
theorem RdAt.setD {w : World} {g : Nat} {b : ByteArray} {S : RS} {F : Fd} (h : RdAt w g b S F) (x : Value) : RdAt (w.setCell ⟨g, 9, none⟩ x) g b S ⟨F.id, F.lo, F.fa, F.re, F.sz, x⟩ := heap_setCell_same w g 9 _ _ _ h
theorem Tch.rd {gs : List Nat} {w w' : World} (ht : Tch gs w w') {g : Nat} {b : ByteArray} {S : RS} {F : Fd} (h : RdAt w g b S F) (hg : g ∉ gs) : RdAt w' g b S F := by
  unfold RdAt; rw [ht.block g h.lt hg]; exact h

set_option maxHeartbeats 1000000 in
theorem fail_any (g : Nat) (b : ByteArray) (S : RS) (F : Fd) (x : Int) (w : World) (h : RdAt w g b S F) :
    Calls Tryd.prog 63 #[.pointer (some ⟨g, 0, none⟩), .int .i64 x] w fun e w' => e = .returned (.tuple #[]) ∧ RdAt w' g b (failP S x) F ∧ Tch [g] w w' := by
  have hc := h.c2
  have hz := h.z 2
  have H := Hid.mk h
  unfold failP
  clear h
  by_cases hf : S.fl = 0
  · rw [if_pos hf]
    rw [hf] at hc
    go_enter Tryd.func63, Tryd.ntmps63
    go_wp2_with fail
    go_end0
    exact ⟨rfl, H.out.setFl x, (Tch.refl _ _).setK (by simp) _ _⟩
  · rw [if_neg hf]
    have h1 : (S.fl == 0) = false := by simpa using hf
    go_enter Tryd.func63, Tryd.ntmps63
    go_wp2_with fail
    go_end0
    exact ⟨rfl, H.out, Tch.refl _ _⟩

theorem failP_7 (b : List UInt8) (S : RS) (n : Nat) (h : b.length < S.u + n) : (failP S 7).fl ≠ 0 ∧ nextP b S n = ([], failP S 7) := by
  unfold failP nextP
  by_cases hf : S.fl = 0
  · rw [if_pos hf, if_pos hf, if_pos h]
    exact ⟨by simp, rfl⟩
  · rw [if_neg hf, if_neg hf]
    exact ⟨hf, rfl⟩
set_option maxHeartbeats 2000000 in
theorem nextB_any (g n : Nat) (b : ByteArray) (S : RS) (F : Fd) (w : World) (h : RdAt w g b S F) (h1000 : b.size ≤ 1000) (hu : S.u ≤ b.size) (hn : n ≤ 1000) :
    Calls Tryd.prog 65 #[.pointer (some ⟨g, 0, none⟩), .int .i64 n] w fun e w' =>
      e = .returned (.string ⟨(nextP b.data.toList S n).1.toArray⟩) ∧ RdAt w' g b (nextP b.data.toList S n).2 F ∧ Tch [g] w w' := by
  have hbl : b.data.toList.length = b.size := by simp
  have c0 := h.c0
  have c1 := h.c1
  have c2 := h.c2
  have z1 := h.z 1
  by_cases hlt : b.size < S.u + n
  · obtain ⟨hne, he⟩ := failP_7 b.data.toList S n (by rw [hbl]; exact hlt)
    rw [he]
    have hfa := fun W hW => fail_any g b S F 7 W hW
    have hd : decide ((b.size : Int) - (S.u : Int) < (n : Int)) = true := by simp; omega
    have hnb : ((failP S 7).fl != 0) = true := by simpa using hne
    have HFA := Hid.mk hfa
    have H := Hid.mk h
    clear h hfa hbl he hne
    go_enter Tryd.func65, Tryd.ntmps65
    go_wp2_with fail
    go_quiet (fail)
    have hB : Below w.heap.size w (w.drewN nq) := ⟨rfl, rfl, rfl, Nat.le_refl _, fun _ _ => rfl⟩
    go_wp2_with fail
    refine (HFA.out _ (H.out.kept hB)).mono ?_
    rintro e w1 ⟨rfl, h1, t1⟩
    have t2 : Tch [g] w w1 := (Tch.of hB).trans t1
    have k2 := h1.c2
    have H1 := Hid.mk h1
    clear hB t1 h1 c0 c1 c2 z1 H HFA
    go_wp2_with fail
    go_ret
    exact ⟨rfl, H1.out, t2⟩
  · have hle : (S.u : Int) + (n : Int) ≤ (b.size : Int) := by omega
    have hd : decide ((b.size : Int) - (S.u : Int) < (n : Int)) = false := by simp; omega
    unfold nextP
    rw [hbl]
    by_cases hf : S.fl = 0
    · rw [if_pos hf, if_neg hlt]
      rw [hf] at c2
      have H := Hid.mk h
      have hx : (b.extract S.u (S.u + n)).data.toList = (b.data.toList.drop S.u).take n := extract_list b S.u n
      have hsl : ∀ W, (Instr.slice 9 (.string b) (some (.int .i64 (S.u : Int))) (some (.int .i64 ((S.u : Int) + (n : Int)))) none).run Tryd.prog W = .ok (.string ⟨((b.data.toList.drop S.u).take n).toArray⟩) W := by
        intro W
        rw [run_slice_string W _ b _ _ _ _ Tryd.underlying9 (by omega) (by omega) (by omega)]
        have e1 : ((S.u : Int)).toNat = S.u := by omega
        have e2 : ((S.u : Int) + (n : Int)).toNat = S.u + n := by omega
        rw [e1, e2, ba_eq hx]
      generalize ByteArray.mk ((b.data.toList.drop S.u).take n).toArray = T at *
      clear hbl hx h
      go_enter Tryd.func65, Tryd.ntmps65
      go_wp2_with fail
      go_quiet (fail)
      obtain ⟨w1, hw1⟩ : ∃ w1, w1 = w.drewN nq := ⟨_, rfl⟩
      have hB : Below w.heap.size w w1 := by rw [hw1]; exact ⟨rfl, rfl, rfl, Nat.le_refl _, fun _ _ => rfl⟩
      rw [← hw1]
      have h1 := H.out.kept hB
      have d0 := h1.c0
      have d1 := h1.c1
      have d2 := h1.c2
      rw [hf] at d2
      have y1 := h1.z 1
      have hs := h1.setU (S.u + n)
      rw [show ((S.u + n : Nat) : Int) = (S.u : Int) + (n : Int) by omega] at hs
      have ht : Tch [g] w (w1.setCell ⟨g, 1, none⟩ (.int .i64 ((S.u : Int) + (n : Int)))) := (Tch.of hB).setK (by simp) _ _
      have s0 := hs.c0
      have s1 := hs.c1
      rw [show ((S.u + n : Nat) : Int) = (S.u : Int) + (n : Int) by omega] at s1
      have HSS := Hid.mk hs
      have HT := Hid.mk ht
      clear hw1 hB h1 c0 c1 c2 z1 hs ht
      go_wp2_with fail
      go_quiet (fail)
      have hB2 : Below (w1.setCell ⟨g, 1, none⟩ (.int .i64 ((S.u : Int) + (n : Int)))).heap.size (w1.setCell ⟨g, 1, none⟩ (.int .i64 ((S.u : Int) + (n : Int)))) ((w1.setCell ⟨g, 1, none⟩ (.int .i64 ((S.u : Int) + (n : Int)))).drewN nq) := ⟨rfl, rfl, rfl, Nat.le_refl _, fun _ _ => rfl⟩
      go_wp2_with fail
      go_ret
      exact ⟨rfl, by rw [← hf]; exact HSS.out.kept hB2, HT.out.trans (Tch.of hB2)⟩
    · rw [if_neg hf]
      have hnb : (S.fl != 0) = true := by simpa using hf
      have H := Hid.mk h
      clear hbl h
      go_enter Tryd.func65, Tryd.ntmps65
      go_wp2_with fail
      go_quiet (fail)
      have hB : Below w.heap.size w (w.drewN nq) := ⟨rfl, rfl, rfl, Nat.le_refl _, fun _ _ => rfl⟩
      go_wp2_with fail
      go_ret
      exact ⟨rfl, H.out.kept hB, Tch.of hB⟩
end Bw
end Go.Proofs.YtfomempleaceiaaDoor
namespace Go.Proofs.YtfomempleaceiaaDoor
open Go.ChangeShapes Go.WideShapes Go.ChangeAt Go.RowKit
namespace Bw
open Bm Cm Go.Sort

theorem takeG_okP (b : List UInt8) (m : Nat) (h : (takeG b m 0 []).2.2 = 0) : (takeG b m 0 []).1.length = m := takeG_len b m h
set_option maxHeartbeats 4000000 in
theorem take_any (g n : Nat) (b : ByteArray) (S : RS) (F : Fd) (w : World) (h : RdAt w g b S F) (hc : checkE b.data.toList = 0) (ho : S.o.length + n ≤ 1000) :
    Calls Tryd.prog 62 #[.pointer (some ⟨g, 0, none⟩), .int .i64 n] w fun e w' =>
      e = .returned (.string ⟨(takeP b.data.toList S n).1.toArray⟩) ∧ RdAt w' g b (takeP b.data.toList S n).2 F ∧ Tch [g] w w' := by
  by_cases hf : S.fl = 0
  · have ht := fun W => take_ok b (S.o.length + n) W hc ho
    have hlen := takeG_okP b.data.toList (S.o.length + n)
    unfold takeP
    rw [if_pos hf]
    generalize takeG b.data.toList (S.o.length + n) 0 [] = A at *
    obtain ⟨o', u', er⟩ := A
    unfold takeV at ht
    simp only at ht hlen ⊢
    have c2 := h.c2
    rw [hf] at c2
    have hos := mk_size S.o
    have hTs := mk_size o'
    have hTl := mk_list o'
    have harg : ((S.o.length + n : Nat) : Int) = (S.o.length : Int) + (n : Int) := by omega
    rw [harg] at ht
    rw [← hos] at ht
    have r0 := fun d os => (cell_regrown h.c0 d os)
    have r3 := fun d os => (cell_regrown h.c3 d os)
    obtain ⟨O, hO⟩ : ∃ O, O = ByteArray.mk S.o.toArray := ⟨_, rfl⟩
    rw [← hO] at ht hos r3
    have hOm : O.size ≤ 1000 := by omega
    have hOn : (O.size : Int) + (n : Int) ≤ 1000 := by omega
    have HT := Hid.mk ht
    have H := Hid.mk h
    have HO := Hid.mk hO
    have HOS := Hid.mk hos
    have HLEN := Hid.mk hlen
    clear h ht hc ho hO hos hlen harg
    by_cases he : er = 0
    · subst he
      rw [if_pos rfl]
      have hl := HLEN.out rfl
      have htl : o'.length = O.size + n := by rw [hl, HOS.out]
      have hsl : ∀ W, (Instr.slice 9 (.string ⟨o'.toArray⟩) (some (.int .i64 (O.size : Int))) none none).run Tryd.prog W = .ok (.string ⟨(o'.drop S.o.length).toArray⟩) W := by
        intro W
        rw [run_slice_string_l W _ (ByteArray.mk o'.toArray) Tryd.underlying9 .i64 _ (by omega) (by rw [hTs, htl]; omega)]
        have e1 : ((O.size : Int)).toNat = S.o.length := by rw [HOS.out]; omega
        have e2 : (ByteArray.mk o'.toArray).size = S.o.length + n := by rw [hTs, htl, HOS.out]
        have e3 : ((ByteArray.mk o'.toArray).extract S.o.length (S.o.length + n)).data.toList = o'.drop S.o.length := by
          rw [extract_list, hTl, List.take_of_length_le (by rw [List.length_drop]; omega)]
        rw [e1, e2, ba_eq e3]
      obtain ⟨T, hT⟩ : ∃ T, T = ByteArray.mk o'.toArray := ⟨_, rfl⟩
      obtain ⟨X, hX⟩ : ∃ X, X = ByteArray.mk (o'.drop S.o.length).toArray := ⟨_, rfl⟩
      rw [← hT] at HT hTs hTl hsl
      rw [← hX] at hsl ⊢
      have HTT := Hid.mk hT
      have hTm : T.size ≤ 2000 := by rw [hTs]; omega
      clear hl htl hTs hTl hT hX
      go_enter Tryd.func62, Tryd.ntmps62
      go_wp2_with fail
      refine wp_region_quiet_below (by kernel_rfl) (by kernel_rfl) ?_
      set_option maxRecDepth 100000 in
      repeat (go_big_quiet_step ((go_at_call 79; exact Calls.regrown_of (HT.out _))))
      refine wpQuiet_nil ?_
      intro _ hw'
      obtain ⟨⟨dq, osq⟩, hw''⟩ := hw'
      have hbq := below_regrown w dq osq
      rw [hw'']
      generalize grow (redrawn w dq) osq = w1 at *
      clear r0 r3 hw''
      have h1 := H.out.kept hbq
      have d3 := h1.c3
      rw [← HO.out] at d3
      have z3 := h1.z 3
      have hs1 := h1.setO o'
      have z1 := hs1.z 1
      have hs2 := hs1.setU u'
      rw [← HTT.out] at hs1 hs2 z1
      have k1 := hs1.c1
      have ht2 : Tch [g] w ((w1.setCell ⟨g, 3, none⟩ (.string T)).setCell ⟨g, 1, none⟩ (.int .i64 u')) := ((Tch.of hbq).setK (by simp) _ _).setK (by simp) _ _
      have HS2 := Hid.mk hs2
      have HT2 := Hid.mk ht2
      clear hbq h1 hs1 hs2 ht2 c2
      go_wp2_with fail
      go_ret
      exact ⟨rfl, by rw [← hf]; exact HS2.out, HT2.out⟩
    · rw [if_neg he]
      have hne : (er != 0) = true := by simpa using he
      have hfl := fun W hW => fail_any g b S F er W hW
      have hfp : failP S er = ⟨er, S.u, S.o⟩ := by unfold failP; rw [if_pos hf]
      rw [hfp] at hfl
      have HF := Hid.mk hfl
      generalize ByteArray.mk o'.toArray = T at *
      clear hfl hfp hTs hTl he
      go_enter Tryd.func62, Tryd.ntmps62
      go_wp2_with fail
      refine wp_region_quiet_below (by kernel_rfl) (by kernel_rfl) ?_
      set_option maxRecDepth 100000 in
      repeat (go_big_quiet_step ((go_at_call 79; exact Calls.regrown_of (HT.out _))))
      refine wpQuiet_nil ?_
      intro _ hw'
      obtain ⟨⟨dq, osq⟩, hw''⟩ := hw'
      have hbq := below_regrown w dq osq
      rw [hw'']
      generalize grow (redrawn w dq) osq = w1 at *
      clear r0 r3 hw''
      have HR1 := Hid.mk (H.out.kept hbq)
      have HT1 := Hid.mk (show Tch [g] w w1 from Tch.of hbq)
      clear hbq c2
      go_wp2_with fail
      refine (HF.out _ HR1.out).mono ?_
      rintro e w2 ⟨rfl, h2, t2⟩
      go_wp2_with fail
      go_ret
      exact ⟨rfl, h2, HT1.out.trans t2⟩
  · have hp : takeP b.data.toList S n = ([], S) := by unfold takeP; rw [if_neg hf]
    rw [hp]
    have c2 := h.c2
    have hnb : (S.fl != 0) = true := by simpa using hf
    have H := Hid.mk h
    clear h hp hc ho
    go_enter Tryd.func62, Tryd.ntmps62
    go_wp2_with fail
    go_ret
    exact ⟨rfl, H.out, Tch.refl _ _⟩

theorem numV_row {l : List UInt8} (h : rowB l = true) (hl : l.length ≤ 62) : numE l = 0 ∧ numV l = val l := by
  have h0 : numE l = 0 := by
    unfold numE
    rw [checkE_row h (by omega), if_pos rfl, if_neg (by omega)]
  refine ⟨h0, ?_⟩
  unfold numV
  rw [if_pos h0]
set_option maxHeartbeats 2000000 in
theorem numb_any (g n : Nat) (b : ByteArray) (S : RS) (F : Fd) (w : World) (h : RdAt w g b S F) (hc : checkE b.data.toList = 0) (ho : S.o.length + n ≤ 1000) (hn : n ≤ 62) :
    Calls Tryd.prog 61 #[.pointer (some ⟨g, 0, none⟩), .int .i64 n] w fun e w' =>
      e = .returned (.int .i64 (numP b.data.toList S n).1) ∧ RdAt w' g b (numP b.data.toList S n).2 F ∧ Tch [g] w w' := by
  have ht := take_any g n b S F w h hc ho
  have hrow := takeP_row b.data.toList (small_of_check hc).2 S n
  have hlen := takeP_len b.data.toList S n
  unfold numP
  have hle : (takeP b.data.toList S n).1.length ≤ 62 := by
    rcases hlen with h' | h'
    · omega
    · rw [h']; simp
  obtain ⟨n1, n2⟩ := numV_row hrow hle
  generalize takeP b.data.toList S n = A at *
  obtain ⟨t, S'⟩ := A
  simp only at ht hle hrow n1 n2 ⊢
  have hTl := mk_list t
  generalize ByteArray.mk t.toArray = T at *
  have hnu := fun W => number_any T W (by rw [ba_size hTl]; unfold maxLen; omega)
  rw [hTl, n1, n2] at hnu
  have HT := Hid.mk ht
  have HN := Hid.mk hnu
  clear ht hrow hlen hTl hle n1 n2 hnu h hc ho hn
  generalize val t = vt at *
  go_enter Tryd.func61, Tryd.ntmps61
  go_wp2_with fail
  refine HT.out.mono ?_
  rintro e w1 ⟨rfl, h1, t1⟩
  go_wp2_with fail
  refine (HN.out _).mono ?_
  rintro e w2 ⟨rfl, hb2⟩
  have h2 := h1.kept hb2
  have t2 := t1.trans (Tch.of hb2)
  clear h1 t1 hb2
  go_wp2_with fail
  go_ret
  exact ⟨rfl, h2, t2⟩
end Bw
end Go.Proofs.YtfomempleaceiaaDoor
namespace Go.Proofs.YtfomempleaceiaaDoor
open Go.ChangeShapes Go.WideShapes Go.ChangeAt Go.RowKit
namespace Bw
open Bm Cm Go.Sort

theorem str_eq {A B : ByteArray} {x y : List UInt8} (hA : A.data.toList = x) (hB : B.data.toList = y) : (A.toList == B.toList) = decide (x = y) := by
  rw [ByteArray.toList_eq, ByteArray.toList_eq, hA, hB, Bool.eq_iff_iff, beq_iff_eq, decide_eq_true_iff]
theorem str_ne {A B : ByteArray} {x y : List UInt8} (hA : A.data.toList = x) (hB : B.data.toList = y) : (A.toList != B.toList) = !decide (x = y) := by
  rw [bne, str_eq hA hB]
theorem RdAt.drew {w : World} {g : Nat} {b : ByteArray} {S : RS} {F : Fd} (h : RdAt w g b S F) : RdAt w.drew g b S F := h
theorem Tch.drew {gs : List Nat} {w a : World} (h : Tch gs w a) : Tch gs w a.drew := h.trans ⟨rfl, rfl, rfl, Nat.le_refl _, fun _ _ _ => rfl⟩

set_option maxHeartbeats 4000000 in
theorem want_any (g : Nat) (b l : ByteArray) (S : RS) (F : Fd) (n : Nat) (w : World) (h : RdAt w g b S F) (hc : checkE b.data.toList = 0) (hi : Inv b.data.toList S n) (hn : n + l.size ≤ 1000) :
    Calls Tryd.prog 60 #[.pointer (some ⟨g, 0, none⟩), .string l] w fun e w' =>
      e = .returned (.tuple #[]) ∧ RdAt w' g b (wantP b.data.toList S l.data.toList) F ∧ Tch [g] w w' := by
  have HI := Hid.mk hi
  have HC := Hid.mk hc
  have H := Hid.mk h
  have hll : l.data.toList.length = l.size := by simp
  have HLL := Hid.mk hll
  clear hi hc h hll
  go_enter Tryd.func60, Tryd.ntmps60
  go_wp2_with fail
  go_loopw [7] (fun i wr => ∃ j : Nat, j ≤ l.size ∧ i = .int .i64 j ∧ RdAt wr g b (wantP b.data.toList S (l.data.toList.take j)) F ∧ Tch [g] w wr) (fun i _ => l.size - (intOf i).toNat)
  case atStart => exact ⟨0, Nat.zero_le _, rfl, H.out, Tch.refl _ _⟩
  case round =>
    obtain ⟨j, hj, rfl, hR, hT⟩ := hrel
    by_cases hlt : j < l.size
    · have hlt' : (j : Int) < (l.size : Int) := by omega
      have hinv := Inv.want (small_of_check HC.out).2 (l.data.toList.take j) HI.out
      have hol := hinv.n
      rw [List.length_take, HLL.out] at hol
      have hnx : wantP b.data.toList S (l.data.toList.take (j + 1)) = wstep b.data.toList (wantP b.data.toList S (l.data.toList.take j)) (l.data.toList.getD j 0) := by
        rw [take_snocL _ _ (by rw [HLL.out]; exact hlt), wantP_snoc]
      generalize wantP b.data.toList S (l.data.toList.take j) = Sj at *
      have htk := fun W hW => take_any g 1 b Sj F W hW HC.out (by omega)
      have hxl : (l.extract j (j + 1)).data.toList = [l.data.toList.getD j 0] := by
        have hj' : j < l.data.toList.length := by rw [HLL.out]; exact hlt
        rw [extract_list l j 1, List.drop_eq_getElem_cons hj', List.getD, List.getElem?_eq_getElem hj']
        rfl
      have hsl : ∀ W, (Instr.slice 9 (.string l) (some (.int .i64 (j : Int))) (some (.int .i64 (IntKind.i64.wrap ((j : Int) + 1)))) none).run Tryd.prog W = .ok (.string (l.extract j (j + 1))) W := by
        intro W
        rw [show IntKind.i64.wrap ((j : Int) + 1) = (j : Int) + 1 by rw [IntKind.wrap_i64]; omega]
        rw [run_slice_string W _ l _ _ _ _ Tryd.underlying9 (by omega) (by omega) (by omega)]
        rfl
      generalize l.extract j (j + 1) = X at *
      generalize l.data.toList.getD j 0 = c at *
      have hTl := mk_list (takeP b.data.toList Sj 1).1
      have hcmp := str_ne hTl hxl
      have hcmq := str_eq hTl hxl
      unfold wstep at hnx
      generalize takeP b.data.toList Sj 1 = A at *
      obtain ⟨t, S'⟩ := A
      simp only at htk hcmp hcmq hnx
      generalize ByteArray.mk t.toArray = T at *
      have HTK := Hid.mk htk
      have HR := Hid.mk hR
      have HN := Hid.mk hnx
      clear hinv hol hnx htk hxl hTl hR
      by_cases hq : t = [c]
      · have hcm : (T.toList != X.toList) = false := by rw [hcmp, hq]; simp
        have hcn : (T.toList == X.toList) = true := by rw [hcmq, hq]; simp
        have hco : T.toList = X.toList := by simpa using hcn
        clear hcmp hcmq
        set_option maxRecDepth 100000 in
        go_wp2_with fail
        set_option maxRecDepth 100000 in
        go_region_with (go_at_call 62; refine (HTK.out _ HR.out.drew).mono ?_; rintro e w1 ⟨rfl, h1, t1⟩)
        all_goals focus
          have ht2 := hT.trans ((Tch.refl _ _).drew.trans t1)
          have HR1 := Hid.mk h1
          clear t1 h1 hT
          go_wp2_with fail
          go_roundw
          case rel => exact ⟨j + 1, by omega, by go_num, by rw [HN.out, if_pos hq]; exact HR1.out, ht2⟩
          case measure => simp [intOf]; omega
      · have hcm : (T.toList != X.toList) = true := by rw [hcmp]; simp [hq]
        have hcn : (T.toList == X.toList) = false := by rw [hcmq]; simp [hq]
        have hco : ¬ T.toList = X.toList := by simpa using hcn
        clear hcmq
        have hfl := fun W hW => fail_any g b S' F 4 W hW
        have HF := Hid.mk hfl
        clear hcmp hfl
        set_option maxRecDepth 100000 in
        go_wp2_with fail
        set_option maxRecDepth 100000 in
        go_region_with (go_at_call 62; refine (HTK.out _ HR.out.drew).mono ?_; rintro e w1 ⟨rfl, h1, t1⟩)
        all_goals focus
          have ht2 := hT.trans ((Tch.refl _ _).drew.trans t1)
          have HR1 := Hid.mk h1
          clear t1 h1 hT
          go_wp2_with fail
          refine (HF.out _ HR1.out).mono ?_
          rintro e w2 ⟨rfl, h2, t2⟩
          have ht3 := ht2.trans t2
          clear ht2 t2
          go_wp2_with fail
          go_roundw
          case rel => exact ⟨j + 1, by omega, by go_num, by rw [HN.out, if_neg hq]; exact h2, ht3⟩
          case measure => simp [intOf]; omega
    · have e : j = l.size := by omega
      subst e
      rw [List.take_of_length_le (by rw [HLL.out]; exact Nat.le_refl _)] at hR
      go_wp2_with fail
      go_end0
      exact ⟨rfl, hR, hT⟩
end Bw
end Go.Proofs.YtfomempleaceiaaDoor
namespace Go.Proofs.YtfomempleaceiaaDoor
open Go.ChangeShapes Go.WideShapes Go.ChangeAt Go.RowKit
namespace Bw
open Bm Cm Go.Sort

theorem is_one {T : ByteArray} {t : List UInt8} (hT : T.data.toList = t) : (T.toList == [49]) = decide (t = [49]) := by
  rw [ByteArray.toList_eq, hT, Bool.eq_iff_iff, beq_iff_eq, decide_eq_true_iff]
theorem is_yes {T : ByteArray} {t : List UInt8} (hT : T.data.toList = t) (h : t = [49]) : (T.toList == [49]) = true ∧ (T.toList != [49]) = false ∧ T.toList = [49] := by
  have h1 : (T.toList == [49]) = true := by rw [is_one hT]; simp [h]
  exact ⟨h1, by rw [bne, h1]; rfl, by simpa using h1⟩
theorem is_no {T : ByteArray} {t : List UInt8} (hT : T.data.toList = t) (h : ¬ t = [49]) : (T.toList == [49]) = false ∧ (T.toList != [49]) = true ∧ ¬ T.toList = [49] := by
  have h1 : (T.toList == [49]) = false := by rw [is_one hT]; simp [h]
  exact ⟨h1, by rw [bne, h1]; rfl, by simpa using h1⟩
theorem or_shift (n m : Nat) (hn : n < 2 ^ 11) (hm : m < 2 ^ 18) : bits .or .i64 (IntKind.i64.wrap ((n : Int) * 262144)) (m : Int) = ((n * 262144 + m : Nat) : Int) := by
  have e : IntKind.i64.wrap ((n : Int) * 262144) = (n : Int) * 262144 := by rw [IntKind.wrap_i64]; omega
  rw [e, bits_join .i64 63 (by decide) (fun n h0 h1 => by rw [IntKind.wrap_i64]; omega) 18 _ _ (by omega) (by omega) (by omega) (by omega) (by omega) (by omega)]
  omega

set_option maxHeartbeats 8000000 in
theorem readName_any (g : Nat) (b : ByteArray) (S : RS) (F : Fd) (n : Nat) (w : World) (h : RdAt w g b S F) (hc : checkE b.data.toList = 0) (hi : Inv b.data.toList S n) (hn : n ≤ 800) :
    Calls Tryd.prog 34 #[.pointer (some ⟨g, 0, none⟩)] w fun e w' =>
      e = .returned (.tuple #[]) ∧ RdAt w' g b (nameP b.data.toList S).S ⟨(nameP b.data.toList S).id, (nameP b.data.toList S).lo, F.fa, (nameP b.data.toList S).re, F.sz, F.d⟩ ∧ Tch [g] w w' := by
  have hrow := (small_of_check hc).2
  have i1 : Inv b.data.toList (nm1 b.data.toList S) (n + 1) := Inv.want hrow [48] hi
  have i2 : Inv b.data.toList (nmN b.data.toList S).2 (n + 1 + 11) := i1.num hrow 11
  have i3 : Inv b.data.toList (nmF b.data.toList S).2 (n + 1 + 11 + 1) := i2.take hrow 1
  have i4 : Inv b.data.toList (nmL b.data.toList S).2 (n + 1 + 11 + 1 + 1) := i3.take hrow 1
  have i5 : Inv b.data.toList (nm5 b.data.toList S) (n + 1 + 11 + 1 + 1) := by unfold nm5; split; exact i4; exact i4.fail 4
  have i6 : Inv b.data.toList (nmM b.data.toList S).2 (n + 1 + 11 + 1 + 1 + 18) := i5.num hrow 18
  have a1 : ∀ (W : World) (F : Fd), RdAt W g b S F → _ := fun W F hW => want_any g b ⟨#[48]⟩ S F n W hW hc hi (by show n + 1 ≤ 1000; omega)
  have a2 : ∀ (W : World) (F : Fd), RdAt W g b (nm1 b.data.toList S) F → _ := fun W F hW => numb_any g 11 b _ F W hW hc (by have := i1.n; omega) (by omega)
  have a3 : ∀ (W : World) (F : Fd), RdAt W g b (nmN b.data.toList S).2 F → _ := fun W F hW => take_any g 1 b _ F W hW hc (by have := i2.n; omega)
  have a4 : ∀ (W : World) (F : Fd), RdAt W g b (nmF b.data.toList S).2 F → _ := fun W F hW => take_any g 1 b _ F W hW hc (by have := i3.n; omega)
  have a5 : ∀ (W : World) (F : Fd), RdAt W g b (nmL b.data.toList S).2 F → _ := fun W F hW => fail_any g b _ F 4 W hW
  have a6 : ∀ (W : World) (F : Fd), RdAt W g b (nm5 b.data.toList S) F → _ := fun W F hW => numb_any g 18 b _ F W hW hc (by have := i5.n; omega) (by omega)
  have a7 : ∀ (W : World) (F : Fd), RdAt W g b (nmM b.data.toList S).2 F → _ := fun W F hW => take_any g 1 b _ F W hW hc (by have := i6.n; omega)
  have q2 : numP b.data.toList (nm1 b.data.toList S) 11 = nmN b.data.toList S := rfl
  have q3 : takeP b.data.toList (nmN b.data.toList S).2 1 = nmF b.data.toList S := rfl
  have q4 : takeP b.data.toList (nmF b.data.toList S).2 1 = nmL b.data.toList S := rfl
  have q6 : numP b.data.toList (nm5 b.data.toList S) 18 = nmM b.data.toList S := rfl
  have q7 : takeP b.data.toList (nmM b.data.toList S).2 1 = nmR b.data.toList S := rfl
  have q1 : wantP b.data.toList S (ByteArray.mk #[48]).data.toList = nm1 b.data.toList S := rfl
  have b2 := numP_lt b.data.toList hrow (nm1 b.data.toList S) 11
  have b6 := numP_lt b.data.toList hrow (nm5 b.data.toList S) 18
  rw [q1] at a1
  rw [q2] at a2 b2
  rw [q3] at a3
  rw [q4] at a4
  rw [q6] at a6 b6
  rw [q7] at a7
  have q5 : nm5 b.data.toList S = if (nmF b.data.toList S).1 = [49] then (nmL b.data.toList S).2 else failP (nmL b.data.toList S).2 4 := rfl
  unfold nameP
  generalize nm1 b.data.toList S = S1 at *
  generalize nmN b.data.toList S = NN at *
  generalize nmF b.data.toList S = FF at *
  generalize nmL b.data.toList S = LL at *
  generalize nm5 b.data.toList S = S5 at *
  generalize nmM b.data.toList S = MM at *
  generalize nmR b.data.toList S = RR at *
  obtain ⟨N, S2⟩ := NN
  obtain ⟨tF, S3⟩ := FF
  obtain ⟨tL, S4⟩ := LL
  obtain ⟨M, S6⟩ := MM
  obtain ⟨tR, S7⟩ := RR
  simp only at a2 a3 a4 a5 a6 a7 b2 b6 q5 ⊢
  have lF := mk_list tF
  have lL := mk_list tL
  have lR := mk_list tR
  generalize ByteArray.mk tF.toArray = TF at *
  generalize ByteArray.mk tL.toArray = TL at *
  generalize ByteArray.mk tR.toArray = TR at *
  have HA1 := Hid.mk a1
  have HA2 := Hid.mk a2
  have HA3 := Hid.mk a3
  have HA4 := Hid.mk a4
  have HA5 := Hid.mk a5
  have HA6 := Hid.mk a6
  have HA7 := Hid.mk a7
  have HB2 := Hid.mk b2
  have HB6 := Hid.mk b6
  have H := Hid.mk h
  have HLF := Hid.mk lF
  have HLR := Hid.mk lR
  have HQ5 := Hid.mk q5
  have N11 : (N : Int) ≤ 2047 := by omega
  have M18 : (M : Int) ≤ 262143 := by omega
  clear a1 a2 a3 a4 a5 a6 a7 b2 b6 h lF lR q1 q2 q3 q4 q5 q6 q7 i1 i2 i3 i4 i5 i6 hi hc hrow hn
  by_cases hL : tL = [49]
  · rw [if_pos hL]
    obtain ⟨y1, y2, y3⟩ := is_yes lL hL
    clear lL hL
    by_cases hF : tF = [49]
    · obtain ⟨x1, x2, x3⟩ := is_yes HLF.out hF
      have e5 := HQ5.out
      rw [if_pos hF] at e5
      subst e5
      clear hF
      go_enter Tryd.func34, Tryd.ntmps34
      go_wp2_with fail
      refine (HA1.out _ _ H.out).mono ?_
      rintro e w1 ⟨rfl, h1, t1⟩
      have H1 := Hid.mk h1
      clear h1 H HA1
      go_wp2_with fail
      refine (HA2.out _ _ H1.out).mono ?_
      rintro e w2 ⟨rfl, h2, t2⟩
      have t12 := t1.trans t2
      have k4 := h2.c4
      have z4 := h2.z 4
      have H2 := Hid.mk (h2.setId N)
      have T2 := Hid.mk (t12.setK (g := g) (by simp) 4 (.int .i64 N))
      clear h2 t1 t2 t12 H1 HA2
      go_wp2_with fail
      refine (HA3.out _ _ H2.out).mono ?_
      rintro e w3 ⟨rfl, h3, t3⟩
      have H3 := Hid.mk h3
      have T3 := Hid.mk (T2.out.trans t3)
      clear h3 t3 k4 z4 H2 T2 HA3
      go_wp2_with fail
      refine (HA4.out _ _ H3.out).mono ?_
      rintro e w4 ⟨rfl, h4, t4⟩
      have k5 := h4.c5
      have z5 := h4.z 5
      have h5 := h4.setLo true
      have d5 := h5.c5
      have T5 := Hid.mk ((T3.out.trans t4).setK (g := g) (by simp) 5 (.bool true))
      have k4 := h5.c4
      have H5 := Hid.mk h5
      clear h4 h5 t4 H3 T3 HA4
      go_wp2_with fail
      set_option maxRecDepth 100000 in
      go_region_with (go_at_call 61; refine (HA6.out _ _ H5.out.drew).mono ?_; rintro e w7 ⟨rfl, h7, t7⟩; have k4' := h7.c4; have z4' := h7.z 4)
      all_goals focus
        have hv := or_shift N M HB2.out HB6.out
        rw [hv]
        have H8 := Hid.mk (h7.setId ((N * 262144 + M : Nat) : Int))
        have T8 := Hid.mk ((T5.out.drew.trans t7).setK (g := g) (by simp) 4 (.int .i64 ((N * 262144 + M : Nat) : Int)))
        clear h7 t7 k4' z4' hv
        generalize w7.setCell ⟨g, 4, none⟩ (.int .i64 ((N * 262144 + M : Nat) : Int)) = w8 at *
        by_cases hRr : tR = [49]
        · obtain ⟨v1, v2, v3⟩ := is_yes HLR.out hRr
          have hdd : decide (tR = [49]) = true := by simpa using hRr
          clear hRr
          go_wp2_with fail
          refine (HA7.out _ _ H8.out).mono ?_
          rintro e w9 ⟨rfl, h9, t9⟩
          have k7 := h9.c7
          have z7 := h9.z 7
          have H9 := Hid.mk h9
          have T9 := Hid.mk (T8.out.trans t9)
          clear h9 t9
          go_wp2_with fail
          go_end0
          exact ⟨rfl, by rw [hdd]; exact H9.out.setRe true, T9.out.setK (by simp) _ _⟩
        · obtain ⟨v1, v2, v3⟩ := is_no HLR.out hRr
          have hdd : decide (tR = [49]) = false := by simpa using hRr
          clear hRr
          go_wp2_with fail
          refine (HA7.out _ _ H8.out).mono ?_
          rintro e w9 ⟨rfl, h9, t9⟩
          have k7 := h9.c7
          have z7 := h9.z 7
          have H9 := Hid.mk h9
          have T9 := Hid.mk (T8.out.trans t9)
          clear h9 t9
          go_wp2_with fail
          go_end0
          exact ⟨rfl, by rw [hdd]; exact H9.out.setRe false, T9.out.setK (by simp) _ _⟩

    · obtain ⟨x1, x2, x3⟩ := is_no HLF.out hF
      have e5 := HQ5.out
      rw [if_neg hF] at e5
      rw [← e5] at HA5
      clear hF
      go_enter Tryd.func34, Tryd.ntmps34
      go_wp2_with fail
      refine (HA1.out _ _ H.out).mono ?_
      rintro e w1 ⟨rfl, h1, t1⟩
      have H1 := Hid.mk h1
      clear h1 H HA1
      go_wp2_with fail
      refine (HA2.out _ _ H1.out).mono ?_
      rintro e w2 ⟨rfl, h2, t2⟩
      have t12 := t1.trans t2
      have k4 := h2.c4
      have z4 := h2.z 4
      have H2 := Hid.mk (h2.setId N)
      have T2 := Hid.mk (t12.setK (g := g) (by simp) 4 (.int .i64 N))
      clear h2 t1 t2 t12 H1 HA2
      go_wp2_with fail
      refine (HA3.out _ _ H2.out).mono ?_
      rintro e w3 ⟨rfl, h3, t3⟩
      have H3 := Hid.mk h3
      have T3 := Hid.mk (T2.out.trans t3)
      clear h3 t3 k4 z4 H2 T2 HA3
      go_wp2_with fail
      refine (HA4.out _ _ H3.out).mono ?_
      rintro e w4 ⟨rfl, h4, t4⟩
      have k5 := h4.c5
      have z5 := h4.z 5
      have h5 := h4.setLo true
      have d5 := h5.c5
      have T5 := Hid.mk ((T3.out.trans t4).setK (g := g) (by simp) 5 (.bool true))
      have k4 := h5.c4
      have H5 := Hid.mk h5
      clear h4 h5 t4 H3 T3 HA4
      go_wp2_with fail
      refine (HA5.out _ _ H5.out).mono ?_
      rintro e w5 ⟨rfl, h6, t6⟩
      have T6 := Hid.mk (T5.out.trans t6)
      have k4 := h6.c4
      have H6 := Hid.mk h6
      clear h6 t6 d5 k5 z5 H5 T5
      go_wp2_with fail
      set_option maxRecDepth 100000 in
      go_region_with (go_at_call 61; refine (HA6.out _ _ H6.out.drew).mono ?_; rintro e w7 ⟨rfl, h7, t7⟩; have k4' := h7.c4; have z4' := h7.z 4)
      all_goals focus
        have hv := or_shift N M HB2.out HB6.out
        rw [hv]
        have H8 := Hid.mk (h7.setId ((N * 262144 + M : Nat) : Int))
        have T8 := Hid.mk ((T6.out.drew.trans t7).setK (g := g) (by simp) 4 (.int .i64 ((N * 262144 + M : Nat) : Int)))
        clear h7 t7 k4' z4' hv
        generalize w7.setCell ⟨g, 4, none⟩ (.int .i64 ((N * 262144 + M : Nat) : Int)) = w8 at *
        by_cases hRr : tR = [49]
        · obtain ⟨v1, v2, v3⟩ := is_yes HLR.out hRr
          have hdd : decide (tR = [49]) = true := by simpa using hRr
          clear hRr
          go_wp2_with fail
          refine (HA7.out _ _ H8.out).mono ?_
          rintro e w9 ⟨rfl, h9, t9⟩
          have k7 := h9.c7
          have z7 := h9.z 7
          have H9 := Hid.mk h9
          have T9 := Hid.mk (T8.out.trans t9)
          clear h9 t9
          go_wp2_with fail
          go_end0
          exact ⟨rfl, by rw [hdd]; exact H9.out.setRe true, T9.out.setK (by simp) _ _⟩
        · obtain ⟨v1, v2, v3⟩ := is_no HLR.out hRr
          have hdd : decide (tR = [49]) = false := by simpa using hRr
          clear hRr
          go_wp2_with fail
          refine (HA7.out _ _ H8.out).mono ?_
          rintro e w9 ⟨rfl, h9, t9⟩
          have k7 := h9.c7
          have z7 := h9.z 7
          have H9 := Hid.mk h9
          have T9 := Hid.mk (T8.out.trans t9)
          clear h9 t9
          go_wp2_with fail
          go_end0
          exact ⟨rfl, by rw [hdd]; exact H9.out.setRe false, T9.out.setK (by simp) _ _⟩

  · rw [if_neg hL]
    obtain ⟨y1, y2, y3⟩ := is_no lL hL
    clear lL hL HA5 HA6 HA7 HQ5
    by_cases hF : tF = [49]
    · obtain ⟨x1, x2, x3⟩ := is_yes HLF.out hF
      have hdd : decide (tF = [49]) = true := by simpa using hF
      clear hF
      go_enter Tryd.func34, Tryd.ntmps34
      go_wp2_with fail
      refine (HA1.out _ _ H.out).mono ?_
      rintro e w1 ⟨rfl, h1, t1⟩
      have H1 := Hid.mk h1
      clear h1 H HA1
      go_wp2_with fail
      refine (HA2.out _ _ H1.out).mono ?_
      rintro e w2 ⟨rfl, h2, t2⟩
      have t12 := t1.trans t2
      have k4 := h2.c4
      have z4 := h2.z 4
      have H2 := Hid.mk (h2.setId N)
      have T2 := Hid.mk (t12.setK (g := g) (by simp) 4 (.int .i64 N))
      clear h2 t1 t2 t12 H1 HA2
      go_wp2_with fail
      refine (HA3.out _ _ H2.out).mono ?_
      rintro e w3 ⟨rfl, h3, t3⟩
      have H3 := Hid.mk h3
      have T3 := Hid.mk (T2.out.trans t3)
      clear h3 t3 k4 z4 H2 T2 HA3
      go_wp2_with fail
      refine (HA4.out _ _ H3.out).mono ?_
      rintro e w4 ⟨rfl, h4, t4⟩
      have k5 := h4.c5
      have z5 := h4.z 5
      have h5 := h4.setLo false
      have d5 := h5.c5
      have k7 := h5.c7
      have z7 := h5.z 7
      have T5 := Hid.mk ((T3.out.trans t4).setK (g := g) (by simp) 5 (.bool false))
      have H5 := Hid.mk h5
      clear h4 h5 t4 H3 T3 HA4
      go_wp2_with fail
      (try simp only [Exit.inBlock, Exit.then]); refine bodyPost_ret (results_none rfl _ _ _) rfl ?_
      exact ⟨rfl, by rw [hdd]; exact H5.out.setRe true, T5.out.setK (by simp) _ _⟩

    · obtain ⟨x1, x2, x3⟩ := is_no HLF.out hF
      have hdd : decide (tF = [49]) = false := by simpa using hF
      clear hF
      go_enter Tryd.func34, Tryd.ntmps34
      go_wp2_with fail
      refine (HA1.out _ _ H.out).mono ?_
      rintro e w1 ⟨rfl, h1, t1⟩
      have H1 := Hid.mk h1
      clear h1 H HA1
      go_wp2_with fail
      refine (HA2.out _ _ H1.out).mono ?_
      rintro e w2 ⟨rfl, h2, t2⟩
      have t12 := t1.trans t2
      have k4 := h2.c4
      have z4 := h2.z 4
      have H2 := Hid.mk (h2.setId N)
      have T2 := Hid.mk (t12.setK (g := g) (by simp) 4 (.int .i64 N))
      clear h2 t1 t2 t12 H1 HA2
      go_wp2_with fail
      refine (HA3.out _ _ H2.out).mono ?_
      rintro e w3 ⟨rfl, h3, t3⟩
      have H3 := Hid.mk h3
      have T3 := Hid.mk (T2.out.trans t3)
      clear h3 t3 k4 z4 H2 T2 HA3
      go_wp2_with fail
      refine (HA4.out _ _ H3.out).mono ?_
      rintro e w4 ⟨rfl, h4, t4⟩
      have k5 := h4.c5
      have z5 := h4.z 5
      have h5 := h4.setLo false
      have d5 := h5.c5
      have k7 := h5.c7
      have z7 := h5.z 7
      have T5 := Hid.mk ((T3.out.trans t4).setK (g := g) (by simp) 5 (.bool false))
      have H5 := Hid.mk h5
      clear h4 h5 t4 H3 T3 HA4
      go_wp2_with fail
      (try simp only [Exit.inBlock, Exit.then]); refine bodyPost_ret (results_none rfl _ _ _) rfl ?_
      exact ⟨rfl, by rw [hdd]; exact H5.out.setRe false, T5.out.setK (by simp) _ _⟩

end Bw
end Go.Proofs.YtfomempleaceiaaDoor
