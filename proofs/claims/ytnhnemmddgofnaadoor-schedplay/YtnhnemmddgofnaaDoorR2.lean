/- What the document's own LongestOf answers of a right kind. -/
import Derived.Test.YtnhnemmddgofnaaDoorC2
import Derived.Test.YtnhnemmddgofnaaDoorC13
import Derived.Test.YtnhnemmddgofnaaDoorR1
import Derived.Test.YtnhnemmddgofnaaDoorC9
import Derived.Deep.RegionWith
import Derived.Test.YtnhnemmddgofnaaDoorFrLong
namespace Go.Proofs.YtnhnemmddgofnaaDoor
open Go.ChangeShapes Go.WideShapes Go.ChangeAt Go.RowKit
namespace Bw
open Bm Cm

set_option maxHeartbeats 4000000 in
theorem nameOf_any (f : Fr) (a : Option Addr) (len cap : Nat) (w : World) (h : w.cell? ⟨5, 1, none⟩ = some (.int .u8 1)) (h0 : 0 ≤ f.id) (h1 : f.id ≤ topI f.lo) :
    Calls Tryd.prog 44 #[frameV f.id f.lo f.fa f.re f.sz a len cap] w fun e w' => e = .returned (.string ⟨(nameL f).toArray⟩) ∧ Below w.heap.size w w' := by
  obtain ⟨id, lo, fa, re, sz, dt⟩ := f
  obtain ⟨n, rfl⟩ : ∃ n : Nat, id = (n : Int) := ⟨id.toNat, by simp only at h0; omega⟩
  simp only at h0 h1 ⊢
  unfold frameV
  have hb0 : Below w.heap.size w (w.alloc (.cells #[.int .i64 n, .bool lo, .bool fa, .bool re, .int .i64 sz, .slice a len cap] 80)) := (Below.refl _ _).alloc (Nat.le_refl _) _
  have hcell := cell_kept hb0 h
  cases lo
  · have hn : n < 2 ^ 11 := by simp [topI] at h1; omega
    have hr := Ww.rowOf_fit n 11 _ hcell (by omega) hn
    have hS := mk_list (bitsHead n 11 11)
    generalize ByteArray.mk (bitsHead n 11 11).toArray = S at *
    have hSs : S.size ≤ 11 := by rw [ba_size hS, bitsHead_length]; exact Nat.le_refl _
    have HSL := Hid.mk hS
    have HR := Hid.mk hr
    clear hr hcell hn h1 h0 hS
    cases re
    all_goals focus
      go_enter Tryd.func44, Tryd.ntmps44
      go_wp2_with fail
      refine HR.out.mono ?_
      rintro e w1 ⟨rfl, hb1⟩
      have hbel1 := bl2 hb0 hb1
      clear hb0 hb1 HR
      go_wp2_with fail
      go_ret
      exact ⟨ret_str1 (by rw [ba_cat, ba_cat, HSL.out, nameL]; simp [bitB]), hbel1⟩
  · have hn : n < 2 ^ 29 := by simp [topI] at h1; omega
    have hr := Ww.rowOf_fit n 29 _ hcell (by omega) hn
    have hS := mk_list (bitsHead n 29 29)
    generalize ByteArray.mk (bitsHead n 29 29).toArray = S at *
    have hSz : S.size = 29 := by rw [ba_size hS, bitsHead_length]
    have hSs : S.size ≤ 29 := by omega
    have hx1 : (S.extract 0 11).data.toList = (bitsHead n 29 29).take 11 := by
      have := extract_list S 0 11
      rw [Nat.zero_add] at this
      rw [this, List.drop_zero, hS]
    have hx2 : (S.extract 11 S.size).data.toList = (bitsHead n 29 29).drop 11 := by
      have e : S.size = 11 + (S.size - 11) := by omega
      rw [e, extract_list S 11 (S.size - 11), hS, List.take_of_length_le (by simp [bitsHead_length]; omega)]
    have hs1 : ∀ W, (Instr.slice 9 (.string S) none (some (.int .i64 11)) none).run Tryd.prog W = .ok (.string (S.extract 0 11)) W := by
      intro W
      rw [run_slice_string_h W _ S Tryd.underlying9 .i64 _ (by omega) (by omega)]; rfl
    have hs2 : ∀ W, (Instr.slice 9 (.string S) (some (.int .i64 11)) none none).run Tryd.prog W = .ok (.string (S.extract 11 S.size)) W := by
      intro W
      rw [run_slice_string_l W _ S Tryd.underlying9 .i64 _ (by omega) (by omega)]; rfl
    have hz1 : (S.extract 0 11).size ≤ 29 := by rw [ba_size hx1, List.length_take]; omega
    have hz2 : (S.extract 11 S.size).size ≤ 29 := by rw [ba_size hx2, List.length_drop, bitsHead_length]; omega
    generalize S.extract 0 11 = X1 at *
    generalize S.extract 11 S.size = X2 at *
    have HX1 := Hid.mk hx1
    have HX2 := Hid.mk hx2
    have HR := Hid.mk hr
    clear hr hcell hn h1 h0 hS hSz hx1 hx2
    cases re
    all_goals focus
      go_enter Tryd.func44, Tryd.ntmps44
      go_wp2_with fail
      refine HR.out.mono ?_
      rintro e w1 ⟨rfl, hb1⟩
      have hbel1 := bl2 hb0 hb1
      clear hb0 hb1 HR
      go_wp2_with fail
      go_quiet (fail)
      have hbel2 : Below w.heap.size w (w1.drewN nq) := bl2 hbel1 ⟨rfl, rfl, rfl, Nat.le_refl _, fun _ _ => rfl⟩
      clear hs1 hs2 hbel1
      go_wp2_with fail
      go_ret
      exact ⟨ret_str1 (by rw [ba_cat, ba_cat, ba_cat, HX1.out, HX2.out, nameL]; simp [bitB]), hbel2⟩
end Bw
end Go.Proofs.YtnhnemmddgofnaaDoor
namespace Go.Proofs.YtnhnemmddgofnaaDoor
open Go.ChangeShapes Go.WideShapes Go.ChangeAt Go.RowKit
namespace Bw
open Bm Cm

set_option maxHeartbeats 1000000 in
theorem index_any (g n c : Nat) (xs : List Int) (v : Int) (w : World) (hn : xs.length = n) (hm : n ≤ 1000) (hx : IntsAt w g xs) :
    Calls Tryd.prog 45 #[.slice (some ⟨g, 0, none⟩) n c, .int .i64 v] w fun e w' => e = .returned (.int .i64 (idxI xs v)) ∧ w' = w := by
  have HX := Hid.mk hx
  have HN := Hid.mk hn
  clear hx hn
  go_enter Tryd.func45, Tryd.ntmps45
  go_wp2_with fail
  go_loopw [8] (fun i wr => ∃ j : Nat, j ≤ n ∧ i = .int .i64 j ∧ Hid (v ∉ xs.take j) ∧ wr = w) (fun i _ => n - (intOf i).toNat)
  case atStart => exact ⟨0, Nat.zero_le _, rfl, Hid.mk (by simp), rfl⟩
  case round =>
    obtain ⟨j, hj, rfl, HV, hwr⟩ := hrel
    subst hwr
    by_cases hlt : j < n
    · have hc := HX.out j (by rw [HN.out]; exact hlt)
      have hlt' : (j : Int) < (n : Int) := by omega
      have hjl : j < xs.length := by rw [HN.out]; exact hlt
      by_cases he : v = xs.getD j 0
      · have hb : (v == xs.getD j 0) = true := by rw [← he]; simp
        have hres : idxI xs v = j := by
          have e1 : xs = xs.take j ++ xs.drop j := (List.take_append_drop j xs).symm
          have e2 : xs.drop j = v :: xs.drop (j + 1) := by rw [List.drop_eq_getElem_cons hjl, he]; simp [List.getD, hjl]
          have e3 := idxI_at (xs.take j) (xs.drop (j + 1)) v HV.out
          rw [← e2, ← e1, List.length_take] at e3
          omega
        have HRES := Hid.mk hres
        generalize xs.getD j 0 = y at *
        clear hres hjl he
        go_wp2_with fail
        go_ret
        exact ⟨by rw [HRES.out]; rfl, rfl⟩
      · have hb : (v == xs.getD j 0) = false := by simpa using he
        have hnext : v ∉ xs.take (j + 1) := by
          rw [List.take_succ_eq_append_getElem hjl, List.mem_append, List.mem_singleton]
          rintro (h | h)
          · exact HV.out h
          · exact he (by rw [h]; simp [List.getD, hjl])
        have HNX := Hid.mk hnext
        generalize xs.getD j 0 = y at *
        clear hnext hjl he
        go_wp2_with fail
        go_roundw
        case rel => exact ⟨j + 1, by omega, by go_num, HNX, by first | rfl | trivial⟩
        case measure => simp [intOf]; omega
    · have e : j = n := by omega
      subst e
      have hres : idxI xs v = -1 := idxI_none xs v (by
        have := HV.out
        rwa [← HN.out, List.take_length] at this)
      have HRES := Hid.mk hres
      clear hres
      go_wp2_with fail
      go_ret
      exact ⟨by rw [HRES.out]; rfl, rfl⟩

def sizesC : Obj := .cells #[.int .i64 0, .int .i64 1, .int .i64 2, .int .i64 3, .int .i64 4, .int .i64 5, .int .i64 6, .int .i64 7, .int .i64 8, .int .i64 12, .int .i64 16, .int .i64 20, .int .i64 24, .int .i64 32, .int .i64 48, .int .i64 64] 3
set_option maxHeartbeats 1000000 in
theorem sizes_any (w : World) :
    Calls Tryd.prog 46 #[] w fun e w' => e = .returned (.slice (some ⟨w.heap.size, 0, none⟩) 16 16) ∧ w' = w.alloc sizesC := by
  go_enter Tryd.func46, Tryd.ntmps46
  set_option maxRecDepth 100000 in
  go_wp2_with fail
  go_ret
  exact ⟨rfl, rfl⟩
theorem sizes_ints (w : World) : IntsAt (w.alloc sizesC) w.heap.size sizesI := by
  intro i hi
  rw [cell_of_row _ _ i _ _ _ (heap_alloc_new w sizesC)]
  have hi' : i < 16 := hi
  clear hi
  match i, hi' with
  | 0, _ => rfl
  | 1, _ => rfl
  | 2, _ => rfl
  | 3, _ => rfl
  | 4, _ => rfl
  | 5, _ => rfl
  | 6, _ => rfl
  | 7, _ => rfl
  | 8, _ => rfl
  | 9, _ => rfl
  | 10, _ => rfl
  | 11, _ => rfl
  | 12, _ => rfl
  | 13, _ => rfl
  | 14, _ => rfl
  | 15, _ => rfl
  | n + 16, h => exact absurd h (by omega)
theorem sizes_ints' (w : World) (g : Nat) (hg : g = w.heap.size) : IntsAt (w.alloc sizesC) g sizesI := by subst hg; exact sizes_ints w
theorem sizes_intsD (w : World) (g : Nat) (hg : g = w.heap.size) : IntsAt (w.alloc sizesC).drew g sizesI := sizes_ints' w g hg
end Bw
end Go.Proofs.YtnhnemmddgofnaaDoor
namespace Go.Proofs.YtnhnemmddgofnaaDoor
open Go.ChangeShapes Go.WideShapes Go.ChangeAt Go.RowKit
namespace Bw
open Bm Cm

set_option maxHeartbeats 8000000 in
theorem headOf_any (f : Fr) (a : Option Addr) (len cap : Nat) (w : World) (hD : w.cell? ⟨5, 1, none⟩ = some (.int .u8 1)) (hE : frE f = 0) (hr : IsBytes w a len cap f.dt) :
    Calls Tryd.prog 34 #[frameV f.id f.lo f.fa f.re f.sz a len cap] w fun e w' => e = .returned (.string ⟨(headL f).toArray⟩) ∧ Below w.heap.size w w' := by
  obtain ⟨e1, e2, e3, e4, e5, e6, e7, e8, e9⟩ := frE_ok hE
  have hdl : f.dt.length = len := hr.1
  have hcode : codeN f < 2 ^ 4 := by
    unfold codeN
    split
    · omega
    · exact (idx_sizes e9).2
  have hb0 : Below w.heap.size w (w.alloc (.cells #[.int .i64 f.id, .bool f.lo, .bool f.fa, .bool f.re, .int .i64 f.sz, .slice a len cap] 80)) := (Below.refl _ _).alloc (Nat.le_refl _) _
  have hnm := fun W hW => nameOf_any f a len cap W hW e1 e2
  unfold frameV at hnm ⊢
  have hNl := mk_list (nameL f)
  have hNs := nameL_len f
  have hro := fun W hW => Ww.rowOf_fit (codeN f) 4 W hW (by omega) hcode
  have hRl := mk_list (bitsHead (codeN f) 4 4)
  have hob := fun W hW hB => ofBytes_any a len cap f.dt W hW (by omega) hB
  have hOl := mk_list (ofL f.dt)
  have hOs : (ofL f.dt).length ≤ 512 := by rw [ofL_length]; omega
  have hidx := (idx_sizes e9).1
  have hcd : codeN f = if f.re then f.sz.toNat else sizesL.idxOf f.dt.length := rfl
  have hhd : headL f = [48] ++ nameL f ++ midL f ++ bitsHead (codeN f) 4 4 ++ ofL f.dt := rfl
  have hN32 : (nameL f).length ≤ 32 := by rw [hNs]; split <;> omega
  generalize hN : ByteArray.mk (nameL f).toArray = NM at *
  generalize hRR : ByteArray.mk (bitsHead (codeN f) 4 4).toArray = RR at *
  generalize hOO : ByteArray.mk (ofL f.dt).toArray = OO at *
  have hNz : NM.size ≤ 32 := by rw [ba_size hNl]; exact hN32
  have hRz : RR.size ≤ 4 := by rw [ba_size hRl, bitsHead_length]; exact Nat.le_refl _
  have hOz : OO.size ≤ 512 := by rw [ba_size hOl]; exact hOs
  have hs := fun W => sizes_any W
  have hix := fun g W hW => index_any g 16 16 sizesI (len : Int) W rfl (by omega) hW
  rw [hdl] at hidx hcd
  simp only [hidx] at hix
  have H1 := Hid.mk hnm
  have H2 := Hid.mk hro
  have H3 := Hid.mk hob
  have H4 := Hid.mk hs
  have H5 := Hid.mk hix
  have HD := Hid.mk hD
  have HR := Hid.mk hr
  have HHD := Hid.mk hhd
  have HNL := Hid.mk hNl
  have HRL := Hid.mk hRl
  have HOL := Hid.mk hOl
  have HCD := Hid.mk hcd
  have hlenm : len ≤ 64 := by omega
  have hmid : midL f = if f.fa then [49, 48, 49, 48] else if f.lo then [48, 48] else [48] := rfl
  have HMI := Hid.mk hmid
  have E3 := Hid.mk e3
  obtain ⟨id, lo, fa, re, sz, dt⟩ := f
  simp only at H1 H2 H3 HCD HMI E3 e4 hb0 ⊢
  obtain ⟨sn, rfl⟩ : ∃ sn : Nat, sz = (sn : Int) := ⟨sz.toNat, by omega⟩
  clear hnm hro hob hs hix hD hr hhd hNl hRl hOl hcd hmid e1 e2 e3 e5 e6 e7 e8 e9 hE hN hRR hOO hNs hN32 hOs hidx hcode hdl
  have hK : ∀ j, (w.alloc (.cells #[.int .i64 id, .bool lo, .bool fa, .bool re, .int .i64 (sn : Int), .slice a len cap] 80)).cell? ⟨w.heap.size, j, none⟩ = #[Value.int .i64 id, .bool lo, .bool fa, .bool re, .int .i64 (sn : Int), .slice a len cap][j]? :=
    fun j => cell_of_row _ _ j _ _ _ (heap_alloc_new w _)
  have HK := Hid.mk hK
  clear hK
  cases re
  · have HCN : Hid (((sizesL.idxOf len : Nat) : Int) = ((codeN ⟨id, lo, fa, false, (sn : Int), dt⟩ : Nat) : Int)) := Hid.mk (by rw [HCD.out]; rfl)
    cases lo <;> cases fa
    all_goals focus
      go_enter Tryd.func34, Tryd.ntmps34
      go_wp2_with fail
      refine (H1.out _ (cell_kept hb0 HD.out)).mono ?_
      rintro e w1 ⟨rfl, hb1⟩
      have hbel1 := bl2 hb0 hb1
      have HB1 := Hid.mk hb1
      have k1 := cell_kept hb1 (HK.out 1)
      have k2 := cell_kept hb1 (HK.out 2)
      have k3 := cell_kept hb1 (HK.out 3)
      have k4 := cell_kept hb1 (HK.out 4)
      have k5 := cell_kept hb1 (HK.out 5)
      simp at k1 k2 k3 k4 k5
      clear hb1 hb0
      go_wp2_with fail
      have hbA : Below w1.heap.size w1 (w1.alloc sizesC) := (Below.refl _ _).alloc (Nat.le_refl _) _
      have k5a := cell_kept hbA k5
      set_option maxRecDepth 100000 in
      go_region_with (first
        | (go_at_call 46; refine (H4.out _).mono ?_; rintro e w2 ⟨rfl, hw2⟩; subst hw2)
        | (go_at_call 45; refine (H5.out _ _ (sizes_intsD _ _ (by simp))).mono ?_; rintro e w2 ⟨rfl, hw2⟩; subst hw2))
      all_goals focus
        have hbel2 : Below w.heap.size w (w1.alloc sizesC).drew := (bl2 hbel1 hbA).drew
        have k5' : (w1.alloc sizesC).drew.cell? ⟨w.heap.size, 5, none⟩ = some (.slice a len cap) := k5a
        clear hbel1 hbA k1 k2 k3 k4 k5 k5a
        generalize (w1.alloc sizesC).drew = w2 at *
        go_wp2_with fail
        rw [HCN.out]
        refine (H2.out _ (cell_kept hbel2 HD.out)).mono ?_
        rintro e w3 ⟨rfl, hb3⟩
        have hbel3 := bl2 hbel2 hb3
        have k55 := cell_kept hb3 k5'
        clear hb3 k5'
        go_wp2_with fail
        refine (H3.out _ (cell_kept hbel3 HD.out) (isBytes_below HR.out hbel3)).mono ?_
        rintro e w4 ⟨rfl, hb4⟩
        have hbel4 := bl2 hbel3 hb4
        clear hb4 hbel3 k55
        go_wp2_with fail
        go_ret
        exact ⟨ret_str1 (by rw [HHD.out, HMI.out]; simp only [ba_cat, HNL.out, HRL.out, HOL.out]; rfl), hbel4⟩
  · obtain ⟨rfl, _⟩ := E3.out rfl
    have HCN : Hid ((sn : Int) = ((codeN ⟨id, lo, false, true, (sn : Int), dt⟩ : Nat) : Int)) := Hid.mk (by rw [HCD.out]; rfl)
    cases lo
    all_goals focus
      go_enter Tryd.func34, Tryd.ntmps34
      go_wp2_with fail
      refine (H1.out _ (cell_kept hb0 HD.out)).mono ?_
      rintro e w1 ⟨rfl, hb1⟩
      have hbel1 := bl2 hb0 hb1
      have HB1 := Hid.mk hb1
      have k1 := cell_kept hb1 (HK.out 1)
      have k2 := cell_kept hb1 (HK.out 2)
      have k3 := cell_kept hb1 (HK.out 3)
      have k4 := cell_kept hb1 (HK.out 4)
      have k5 := cell_kept hb1 (HK.out 5)
      simp at k1 k2 k3 k4 k5
      clear hb1 hb0
      have k5' := k5
      have hbel2 := hbel1
      clear hbel1
      go_wp2_with fail
      rw [HCN.out]
      refine (H2.out _ (cell_kept hbel2 HD.out)).mono ?_
      rintro e w3 ⟨rfl, hb3⟩
      have hbel3 := bl2 hbel2 hb3
      have k55 := cell_kept hb3 k5'
      clear hb3 k5'
      go_wp2_with fail
      refine (H3.out _ (cell_kept hbel3 HD.out) (isBytes_below HR.out hbel3)).mono ?_
      rintro e w4 ⟨rfl, hb4⟩
      have hbel4 := bl2 hbel3 hb4
      clear hb4 hbel3 k55
      go_wp2_with fail
      go_ret
      exact ⟨ret_str1 (by rw [HHD.out, HMI.out]; simp only [ba_cat, HNL.out, HRL.out, HOL.out]; rfl), hbel4⟩
end Bw
end Go.Proofs.YtnhnemmddgofnaaDoor
namespace Go.Proofs.YtnhnemmddgofnaaDoor
open Go.ChangeShapes Go.WideShapes Go.ChangeAt Go.RowKit
namespace Bw
open Bm Cm

theorem ret_intL {a b : Int} (h : a = b) : Ending.returned (.int .i64 a) = .returned (.int .i64 b) := by rw [h]
set_option maxHeartbeats 1000000 in
theorem most1_any (k : Nat) (w : World) (h : 1 ≤ k) (hk : k ≤ 1000) :
    Calls Tryd.prog 35 #[.int .i64 k] w fun e w' => e = .returned (.int .i64 (mostN k : Nat)) ∧ w' = w := by
  have HQ := Hid.mk (quo4 k h)
  have hk1 : (1 : Int) ≤ (k : Int) := by omega
  have hk2 : (k : Int) ≤ 1000 := by omega
  clear h hk
  go_enter Tryd.func35, Tryd.ntmps35
  go_wp2_with fail
  go_ret
  refine ⟨?_, rfl⟩
  unfold mostN
  rw [← HQ.out]
  rfl

set_option maxHeartbeats 8000000 in
set_option maxRecDepth 100000 in
theorem longestOf_any (lo fa : Bool) (n : Nat) (w : World) (hD : w.cell? ⟨5, 1, none⟩ = some (.int .u8 1)) (hn : n ≤ 64) (hE : frE (frZ lo fa n) = 0) :
    Calls Tryd.prog 23 #[.bool lo, .bool fa, .int .i64 n] w fun e w' => e = .returned (.int .i64 (longN lo fa n)) ∧ Below w.heap.size w w' := by
  obtain ⟨i0, hi, hz0, hz1, hz2⟩ := info_parts info_u8
  have hdl : (frZ lo fa n).dt.length = n := by simp [frZ]
  have a2 := fun (a : Option Addr) (cap : Nat) W hW hB => headOf_any (frZ lo fa n) a n cap W hW hE hB
  have hHl := mk_list (headL (frZ lo fa n))
  have hHn := headL_le (frZ lo fa n) (by omega)
  unfold longN
  generalize ByteArray.mk (headL (frZ lo fa n)).toArray = H at *
  have hHs : H.size = (headL (frZ lo fa n)).length := ba_size hHl
  rw [← hHs]
  have a4 := fun W => most1_any (H.size + 15) W (by omega) (by omega)
  have a5 := fun W => most1_any H.size W (by omega) (by omega)
  have e15 : ((H.size + 15 : Nat) : Int) = (H.size : Int) + 15 := by omega
  rw [e15] at a4
  have m4 : mostN (H.size + 15) = H.size + 15 + (H.size + 15 - 1) / 4 := rfl
  have m5 : mostN H.size = H.size + (H.size - 1) / 4 := rfl
  have b4 : mostN (H.size + 15) ≤ 2000 := by rw [m4]; omega
  have b5 : mostN H.size ≤ 2000 := by rw [m5]; omega
  generalize mostN (H.size + 15) = M4 at *
  generalize mostN H.size = M5 at *
  have hHm : (H.size : Int) ≤ 553 := by omega
  have hze : ∀ a cap, frameV (frZ lo fa n).id (frZ lo fa n).lo (frZ lo fa n).fa (frZ lo fa n).re (frZ lo fa n).sz a n cap = frameV 0 lo fa false 0 a n cap := fun _ _ => rfl
  simp only [hze] at a2
  have hdt : (frZ lo fa n).dt = List.replicate n 0 := rfl
  rw [hdt] at a2
  have HA2 := Hid.mk a2
  have HA4 := Hid.mk a4
  have HA5 := Hid.mk a5
  have HD := Hid.mk hD
  have hn64 : (n : Int) ≤ 64 := by omega
  unfold frameV at HA2
  have zero_cells : cellsOf (List.replicate n (0 : UInt8)) = List.replicate n (Value.int .u8 0) := by simp [cellsOf]
  have HZC := Hid.mk zero_cells
  clear a2 a4 a5 hD hE hdl hHl hHn hHs e15 m4 m5 hze hdt zero_cells
  cases fa
  · simp only [Bool.false_eq_true, if_false]
    go_enter Tryd.func23, Tryd.ntmps23
    go_wp2_with (at_make; refine wpList_make_full _ rfl (.tmp 12) (.tmp 12) 78 rfl w.heap.size 5 i0 (.int .u8 0) 1 Tryd.underlying78 hi hz0 hz1 .i64 .i64 _ _ n rfl rfl (by omega) (by omega) (by rw [hz2]; omega) (by unfold maxLen; omega) (Nat.le_refl _) ?_; intro w2 hown hgrow)
    have hown0 : w2.ownsRow w.heap.size 5 1 (.slice (some ⟨w.heap.size, 0, none⟩) n n) n (cellsOf (List.replicate n (0 : UInt8))) := by
      rw [HZC.out, ← toList_madeCells_one]
      rw [Nat.mul_one] at hown
      exact hown
    have hb2 : Below w.heap.size w w2 := Below.grown (Below.refl _ _) hgrow (Nat.le_refl _) (fun q hq => by cases hq)
    obtain ⟨av, cp, hv, hby, -⟩ := isBytes_ownP hown0
    have hv1 : av = some ⟨w.heap.size, 0, none⟩ ∧ cp = n := by
      simp only [Value.slice.injEq] at hv
      exact ⟨hv.1.symm, hv.2.2.symm⟩
    obtain ⟨rfl, rfl⟩ := hv1
    have HB2 := Hid.mk hb2
    have HY2 := Hid.mk hby
    clear hown hown0 hgrow hb2 hv hby
    go_wp2_with fail
    refine (HA2.out _ _ _ (cell_kept HB2.out HD.out) HY2.out).mono ?_
    rintro e w4 ⟨rfl, hb4⟩
    have HB4 := Hid.mk (bl2 HB2.out hb4)
    clear hb4 HB2 HY2 HA2
    go_wp2_with fail
    refine (HA4.out _).mono ?_
    rintro e w5 ⟨rfl, hw5⟩
    subst hw5
    go_wp2_with fail
    go_ret
    exact ⟨by congr 2, HB4.out⟩
  · simp only [if_true]
    by_cases h16 : 16 < n
    · rw [if_pos h16]
      have h16' : (16 : Int) < (n : Int) := by omega
      go_enter Tryd.func23, Tryd.ntmps23
      go_wp2_with (at_make; refine wpList_make_full _ rfl (.tmp 12) (.tmp 12) 78 rfl w.heap.size 5 i0 (.int .u8 0) 1 Tryd.underlying78 hi hz0 hz1 .i64 .i64 _ _ n rfl rfl (by omega) (by omega) (by rw [hz2]; omega) (by unfold maxLen; omega) (Nat.le_refl _) ?_; intro w2 hown hgrow)
      have hown0 : w2.ownsRow w.heap.size 5 1 (.slice (some ⟨w.heap.size, 0, none⟩) n n) n (cellsOf (List.replicate n (0 : UInt8))) := by
        rw [HZC.out, ← toList_madeCells_one]
        rw [Nat.mul_one] at hown
        exact hown
      have hb2 : Below w.heap.size w w2 := Below.grown (Below.refl _ _) hgrow (Nat.le_refl _) (fun q hq => by cases hq)
      obtain ⟨av, cp, hv, hby, -⟩ := isBytes_ownP hown0
      have hv1 : av = some ⟨w.heap.size, 0, none⟩ ∧ cp = n := by
        simp only [Value.slice.injEq] at hv
        exact ⟨hv.1.symm, hv.2.2.symm⟩
      obtain ⟨rfl, rfl⟩ := hv1
      have HB2 := Hid.mk hb2
      have HY2 := Hid.mk hby
      clear hown hown0 hgrow hb2 hv hby
      go_wp2_with fail
      refine (HA2.out _ _ _ (cell_kept HB2.out HD.out) HY2.out).mono ?_
      rintro e w4 ⟨rfl, hb4⟩
      have HB4 := Hid.mk (bl2 HB2.out hb4)
      clear hb4 HB2 HY2 HA2
      go_wp2_with fail
      refine (HA5.out _).mono ?_
      rintro e w5 ⟨rfl, hw5⟩
      subst hw5
      go_wp2_with fail
      go_ret
      exact ⟨ret_intL (by omega), HB4.out⟩
    · rw [if_neg h16]
      have h16' : (n : Int) ≤ 16 := by omega
      go_enter Tryd.func23, Tryd.ntmps23
      go_wp2_with (at_make; refine wpList_make_full _ rfl (.tmp 12) (.tmp 12) 78 rfl w.heap.size 5 i0 (.int .u8 0) 1 Tryd.underlying78 hi hz0 hz1 .i64 .i64 _ _ n rfl rfl (by omega) (by omega) (by rw [hz2]; omega) (by unfold maxLen; omega) (Nat.le_refl _) ?_; intro w2 hown hgrow)
      have hown0 : w2.ownsRow w.heap.size 5 1 (.slice (some ⟨w.heap.size, 0, none⟩) n n) n (cellsOf (List.replicate n (0 : UInt8))) := by
        rw [HZC.out, ← toList_madeCells_one]
        rw [Nat.mul_one] at hown
        exact hown
      have hb2 : Below w.heap.size w w2 := Below.grown (Below.refl _ _) hgrow (Nat.le_refl _) (fun q hq => by cases hq)
      obtain ⟨av, cp, hv, hby, -⟩ := isBytes_ownP hown0
      have hv1 : av = some ⟨w.heap.size, 0, none⟩ ∧ cp = n := by
        simp only [Value.slice.injEq] at hv
        exact ⟨hv.1.symm, hv.2.2.symm⟩
      obtain ⟨rfl, rfl⟩ := hv1
      have HB2 := Hid.mk hb2
      have HY2 := Hid.mk hby
      clear hown hown0 hgrow hb2 hv hby
      go_wp2_with fail
      refine (HA2.out _ _ _ (cell_kept HB2.out HD.out) HY2.out).mono ?_
      rintro e w4 ⟨rfl, hb4⟩
      have HB4 := Hid.mk (bl2 HB2.out hb4)
      clear hb4 HB2 HY2 HA2
      go_wp2_with fail
      refine (HA5.out _).mono ?_
      rintro e w5 ⟨rfl, hw5⟩
      subst hw5
      go_wp2_with fail
      go_ret
      exact ⟨ret_intL (by omega), HB4.out⟩
end Bw
end Go.Proofs.YtnhnemmddgofnaaDoor
