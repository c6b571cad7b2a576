/- What the document's own ReadBits answers of a right row. -/
import Derived.Test.YtemohjamcdkcmaaGreatDoorC2
import Derived.Test.YtemohjamcdkcmaaGreatDoorRD3
import Derived.Test.YtemohjamcdkcmaaGreatDoorRefSizes
import Derived.Deep.RegionLaw
import Derived.Deep.AppendLies
import Derived.Test.YtemohjamcdkcmaaGreatDoorRefSum
import Derived.Test.YtemohjamcdkcmaaGreatDoorC21
import Derived.Test.YtemohjamcdkcmaaGreatDoorRD1
namespace Go.Proofs.YtemohjamcdkcmaaGreatDoor
open Go.ChangeShapes Go.WideShapes Go.ChangeAt Go.RowKit
namespace Bw
open Bm Cm
theorem dlJ_stop (b : List UInt8) (S : RS) (j : Nat) (h : (dlJ b S j).1.fl ≠ 0) : ∀ m, dlJ b S (j + m) = dlJ b S j
  | 0 => rfl
  | m + 1 => by rw [← Nat.add_assoc, dlJ, dlJ_stop b S j h m, if_neg h]
theorem RB.app {w0 : World} {B top gb gr gF ga gf gh gq : Nat} {b : ByteArray} {w : World} {S : RS} {id : Int} {lo fa re : Bool} {sz : Int} {v : Value} {dt : List UInt8} {w5 : World} {v' : Value} {dt' : List UInt8}
    (h : RB w0 B top gb gr gF ga gf gh gq b w S id lo fa re sz v dt) (hb : Below top w w5) (hD : w5.ownsRow top 5 1 v' dt'.length (cellsOf dt')) :
    w5.cell? ⟨gF, 5, none⟩ = some v ∧ w5.frozen? ⟨gF, 5, none⟩ = false ∧ RB w0 B top gb gr gF ga gf gh gq b (w5.setCell ⟨gF, 5, none⟩ v') S id lo fa re sz v' dt' := by
  have nd := h.nd
  simp at nd
  have g1 := h.ge gb (by simp)
  have g2 := h.ge gr (by simp)
  have g3 := h.ge gF (by simp)
  have g4 := h.ge ga (by simp)
  have g5 := h.ge gf (by simp)
  have g6 := h.ge gh (by simp)
  have g7 := h.ge gq (by simp)
  have hF5 : w5.heap[gF]? = some (.cells #[.int .i64 id, .bool lo, .bool fa, .bool re, .int .i64 sz, v] 24 (0, 0)) := (hb.block gF g3.2).trans h.F
  have hF := heap_setCell_same w5 gF 5 _ _ v' hF5
  simp only [List.setIfInBounds_toArray, List.set_cons_zero, List.set_cons_succ] at hF
  have o : ∀ k, k ≠ gF → (w5.setCell ⟨gF, 5, none⟩ v').heap[k]? = w5.heap[k]? := fun k hk => Below.heap_setCell _ _ _ _ hk
  have ht : Tch [gF] w5 (w5.setCell ⟨gF, 5, none⟩ v') := (Tch.refl _ _).setK (by simp) 5 v'
  refine ⟨by rw [cell_of_row w5 gF 5 _ _ _ hF5]; rfl, frozen_of_row w5 gF 5 _ _ hF5, ⟨⟨?_, ?_, ?_, ?_, h.st.ne⟩, ?_, hF, ?_, ownsRow_tch hD ht (fun g hg => by simp at hg; omega), ?_, h.nd, h.ge, h.hB, ?_⟩⟩
  · exact (o gb (by omega)).trans ((hb.block gb g1.2).trans h.st.b)
  · exact (o gh (by omega)).trans ((hb.block gh g6.2).trans h.st.h)
  · exact (o gf (by omega)).trans ((hb.block gf g5.2).trans h.st.f)
  · exact (o ga (by omega)).trans ((hb.block ga g4.2).trans h.st.a)
  · exact (o gq (by omega)).trans ((hb.block gq g7.2).trans h.q)
  · exact (o gr (by omega)).trans ((hb.block gr g2.2).trans h.R)
  · exact Tch.below (h.bel.trans (hb.mono (by omega))) ht (fun g hg => by simp at hg; omega) h.hB
  · exact Nat.le_trans h.ht (Nat.le_trans hb.size ht.size)
theorem sizes_le (n : Nat) (h : n ≤ 15) : sizesL.getD n 0 ≤ 64 := by
  have : ∀ m : Fin 16, sizesL.getD m.val 0 ≤ 64 := by decide +kernel
  exact this ⟨n, by omega⟩
theorem sizes_cell (w : World) (n : Nat) (h : n ≤ 15) : (w.alloc sizesC).cell? ⟨w.heap.size, n, none⟩ = some (.int .i64 ((sizesL.getD n 0 : Nat) : Int)) := by
  rw [cell_of_row _ _ n _ _ _ (heap_alloc_new w sizesC)]
  have hi' : n < 16 := by omega
  clear h
  match n, hi' with
  | 0, _ => rfl
  | 1, _ => rfl
  | 2, _ => rfl
  | 3, _ => rfl
  | 4, _ => rfl
  | 5, _ => rfl
  | 6, _ => rfl
  | 7, _ => rfl
  | 8, _ => rfl
  | 9, _ => rfl
  | 10, _ => rfl
  | 11, _ => rfl
  | 12, _ => rfl
  | 13, _ => rfl
  | 14, _ => rfl
  | 15, _ => rfl
  | n + 16, h => exact absurd h (by omega)
set_option maxHeartbeats 8000000 in
set_option maxRecDepth 100000 in
theorem rb3b (tl : Code) (R0 : Ending → World → Prop) (w0 : World) (B top gb gr gF ga gf gh gq : Nat) (b : ByteArray) (w : World) (S : RS) (id : Int) (lo fa re : Bool) (n : Nat) (h1000 : b.size ≤ 1000) (hb : rowB b.data.toList = true) (hI : Inv b.data.toList S 41) (hn : n ≤ 15) 
    (h : RB w0 B top gb gr gF ga gf gh gq b w S id lo fa re 0 (.slice none 0 0) [])
    (hT : ∀ (x0 x3 x4 x12 x13 x14 x15 x16 x17 x18 x19 x20 x21 x22 x23 x24 x25 x26 x27 x28 x29 x30 x31 x32 x33 x34 x35 x36 x37 x38 x39 x40 x41 x42 x43 x44 x45 x46 x47 x48 x49 x50 x51 x52 x53 x54 x55 x56 x57 x58 x59 x60 x61 x62 x63 x64 x65 x66 x67 x68 x69 x70 x71 x72 x73 x74 x75 x76 x77 x78 x79 x80 x81 x82 x83 x84 x85 x86 x87 x88 x89 x90 x91 x92 x93 x94 x95 x96 x97 x98 x99 x100 x101 x102 x103 x104 x105 x106 x107 x108 x109 x110 x111 x112 x113 x114 x115 x116 x117 x118 x119 x120 x121 x122 x123 x124 x125 x126 x127 x128 x129 x130 x131 x132 x133 x134 x135 x136 x137 x138 x139 x140 x141 x142 x143 x144 x145 x146 x147 x148 x149 x150 x151 x152 x153 x154 x155 x156 x157 x158 x159 x160 x161 x162 x163 x164 x165 x166 x167 x168 x169 x170 x171 x172 x173 x174 x175 x176 x177 x178 x179 x180 x181 x182 x183 x184 x185 x186 x187 x188 x189 x190 x191 x192 x193 x194 x195 x196 x197 x198 x199 x200 x201 x202 x203 x204 x205 x206 x207 x208 x209 x210 x211 : Value) (w' : World), (∃ v, RB w0 B top gb gr gF ga gf gh gq b w' (if re then S else (dlJ b.data.toList S (sizesL.getD n 0)).1) id lo fa re (if re then (n : Int) else 0) v (if re then [] else (dlJ b.data.toList S (sizesL.getD n 0)).2)) → tl.wp Tryz.prog (bodyPost Tryz.prog Tryz.f20 R0) ⟨#[x0, .pointer (some ⟨gb, 0, none⟩), .pointer (some ⟨gr, 0, none⟩), x3, x4, .pointer (some ⟨gF, 0, none⟩), .pointer (some ⟨ga, 0, none⟩), .pointer (some ⟨gf, 0, none⟩), .pointer (some ⟨gh, 0, none⟩), .pointer (some ⟨gq, 0, none⟩), .func (.func 56) #[] #[.pointer (some ⟨gq, 0, none⟩)], .func (.func 57) #[] #[.pointer (some ⟨gf, 0, none⟩)], x12, x13, x14, x15, x16, x17, x18, x19, x20, x21, x22, x23, x24, x25, x26, x27, x28, x29, x30, x31, x32, x33, x34, x35, x36, x37, x38, x39, x40, x41, x42, x43, x44, x45, x46, x47, x48, x49, x50, x51, x52, x53, x54, x55, x56, x57, x58, x59, x60, x61, x62, x63, x64, x65, x66, x67, x68, x69, x70, x71, x72, x73, x74, x75, x76, x77, x78, x79, x80, x81, x82, x83, x84, x85, x86, x87, x88, x89, x90, x91, x92, x93, x94, x95, x96, x97, x98, x99, x100, x101, x102, x103, x104, x105, x106, x107, x108, x109, x110, x111, x112, x113, x114, x115, x116, x117, x118, x119, x120, x121, x122, x123, x124, x125, x126, x127, x128, x129, x130, x131, x132, x133, x134, x135, x136, x137, x138, x139, x140, x141, x142, x143, x144, x145, x146, x147, x148, x149, x150, x151, x152, x153, x154, x155, x156, x157, x158, x159, x160, x161, x162, x163, x164, x165, x166, x167, x168, x169, x170, x171, x172, x173, x174, x175, x176, x177, x178, x179, x180, x181, x182, x183, x184, x185, x186, x187, x188, x189, x190, x191, x192, x193, x194, x195, x196, x197, x198, x199, x200, x201, x202, x203, x204, x205, x206, x207, x208, x209, x210, x211], []⟩ w')
    (u0 u3 u4 u13 u14 u15 u16 u17 u18 u19 u20 u21 u22 u23 u24 u25 u26 u27 u28 u29 u30 u31 u32 u33 u34 u35 u36 u37 u38 u39 u40 u41 u42 u43 u44 u45 u46 u47 u48 u49 u50 u51 u52 u53 u54 u55 u56 u57 u58 u59 u60 u61 u62 u63 u64 u65 u66 u67 u68 u69 u70 u71 u72 u73 u74 u75 u76 u77 u78 u79 u80 u81 u82 u83 u84 u85 u86 u87 u88 u89 u90 u91 u92 u93 u94 u95 u96 u97 u98 u99 u100 u101 u102 u103 u104 u105 u106 u107 u108 u109 u110 u111 u112 u113 u114 u115 u116 u117 u118 u119 u120 u121 u122 u123 u124 u125 u126 u127 u128 u129 u130 u131 u132 u133 u134 u135 u136 u137 u138 u139 u140 u141 u142 u143 u144 u145 u146 u147 u148 u149 u150 u151 u152 u153 u154 u155 u156 u157 u158 u159 u160 u161 u162 u163 u164 u165 u166 u167 u168 u169 u170 u171 u172 u173 u174 u175 u176 u177 u178 u179 u180 u181 u182 u183 u184 u185 u186 u187 u188 u189 u190 u191 u192 u193 u194 u195 u196 u197 u198 u199 u200 u201 u202 u203 u204 u205 u206 u207 u208 u209 u210 u211 : Value) : (withTail 1 (dropSeq 15 rbBody) tl).wp Tryz.prog (bodyPost Tryz.prog Tryz.f20 R0) ⟨#[u0, .pointer (some ⟨gb, 0, none⟩), .pointer (some ⟨gr, 0, none⟩), u3, u4, .pointer (some ⟨gF, 0, none⟩), .pointer (some ⟨ga, 0, none⟩), .pointer (some ⟨gf, 0, none⟩), .pointer (some ⟨gh, 0, none⟩), .pointer (some ⟨gq, 0, none⟩), .func (.func 56) #[] #[.pointer (some ⟨gq, 0, none⟩)], .func (.func 57) #[] #[.pointer (some ⟨gf, 0, none⟩)], .int .i64 (n : Int), u13, u14, u15, u16, u17, u18, u19, u20, u21, u22, u23, u24, u25, u26, u27, u28, u29, u30, u31, u32, u33, u34, u35, u36, u37, u38, u39, u40, u41, u42, u43, u44, u45, u46, u47, u48, u49, u50, u51, u52, u53, u54, u55, u56, u57, u58, u59, u60, u61, u62, u63, u64, u65, u66, u67, u68, u69, u70, u71, u72, u73, u74, u75, u76, u77, u78, u79, u80, u81, u82, u83, u84, u85, u86, u87, u88, u89, u90, u91, u92, u93, u94, u95, u96, u97, u98, u99, u100, u101, u102, u103, u104, u105, u106, u107, u108, u109, u110, u111, u112, u113, u114, u115, u116, u117, u118, u119, u120, u121, u122, u123, u124, u125, u126, u127, u128, u129, u130, u131, u132, u133, u134, u135, u136, u137, u138, u139, u140, u141, u142, u143, u144, u145, u146, u147, u148, u149, u150, u151, u152, u153, u154, u155, u156, u157, u158, u159, u160, u161, u162, u163, u164, u165, u166, u167, u168, u169, u170, u171, u172, u173, u174, u175, u176, u177, u178, u179, u180, u181, u182, u183, u184, u185, u186, u187, u188, u189, u190, u191, u192, u193, u194, u195, u196, u197, u198, u199, u200, u201, u202, u203, u204, u205, u206, u207, u208, u209, u210, u211], []⟩ w := by
  show Code.wp _ (.seq _ tl) _ _ _
  have HT := Hid.mk hT
  have HB := Hid.mk hb
  clear hT hb
  obtain ⟨i0, hi, hz0, hz1, hz2⟩ := info_parts info_u8
  have H0 := Hid.mk h
  clear h
  cases re
  · simp only [Bool.false_eq_true, if_false] at HT
    obtain ⟨_, _, _, d3, _⟩ := H0.out.cells
    have hIt := Hid.mk (fun j => hI.dlJ HB.out j)
    have hs64 : (sizesL.getD n 0) ≤ 64 := sizes_le n hn
    obtain ⟨m, hm⟩ : ∃ m, m = (sizesL.getD n 0) := ⟨_, rfl⟩
    rw [← hm] at HT hs64
    have HM := Hid.mk hm
    clear hm hI
    go_wp2_with fail
    go_loopw [13] (fun i wr => ∃ (j : Nat) (v : Value), j ≤ m ∧ i = .int .i64 j ∧ RB w0 B top gb gr gF ga gf gh gq b wr (dlJ b.data.toList S j).1 id lo fa false 0 v (dlJ b.data.toList S j).2) (fun i _ => m - (intOf i).toNat)
    case atStart => exact ⟨0, _, by omega, rfl, H0.out⟩
    case round =>
      clear H0 d3
      obtain ⟨j, v, hj, rfl, hR⟩ := hrel
      have H1 := Hid.mk hR
      clear hR
      have hf := H1.out.st.f.cell
      by_cases hz : (dlJ b.data.toList S j).1.fl = 0
      · rw [hz] at hf
        have A2 := Hid.mk (sizes_any wr)
        go_wp2_with fail
        refine A2.out.mono ?_
        rintro e w2 ⟨rfl, hw2⟩
        have hc2 : w2.cell? ⟨wr.heap.size, n, none⟩ = some (.int .i64 (m : Int)) := by
          rw [hw2, HM.out]
          exact sizes_cell wr n hn
        have hb2 : Below wr.heap.size wr w2 := by rw [hw2]; exact (Below.refl _ _).alloc (Nat.le_refl _) _
        have H2 := Hid.mk (H1.out.kept hb2)
        clear hb2
        clear hw2 A2 H1 hf
        by_cases hlt : j < m
        · have hlt' : (j : Int) < (m : Int) := by omega
          have hn15 : (n : Int) ≤ 15 := by omega
          have HDr := Hid.mk H2.out.drew
          have A3 := Hid.mk (num2_any gb gh gf ga gq 8 b (dlJ b.data.toList S j).1 w2.drew HDr.out.st HDr.out.q HDr.out.hqn h1000 HB.out (by omega) (by have := (hIt.out j).n; omega))
          have hN := numJ_lt b.data.toList HB.out (dlJ b.data.toList S j).1 8
          obtain ⟨N, hNe⟩ : ∃ N, N = (numJ b.data.toList (dlJ b.data.toList S j).1 8).1 := ⟨_, rfl⟩
          rw [← hNe] at A3 hN
          have HNE := Hid.mk hNe
          have hN' : (N : Int) ≤ 255 := by omega
          have hwr : IntKind.u8.wrap (N : Int) = (N : Int) := by unfold IntKind.wrap; simp [IntKind.bits, IntKind.signed]; omega
          have hdl := dlJ_len b.data.toList S j
          have hdl2 : (dlJ b.data.toList S j).2.length ≤ 64 := by omega
          have HNX : Hid (dlJ b.data.toList S (j + 1) = ((numJ b.data.toList (dlJ b.data.toList S j).1 8).2, (dlJ b.data.toList S j).2 ++ [UInt8.ofNat N])) := Hid.mk (by rw [dlJ, if_pos hz, hNe])
          have HC : Hid (cellsOf ((dlJ b.data.toList S j).2 ++ [UInt8.ofNat N]) = cellsOf (dlJ b.data.toList S j).2 ++ [Value.int .u8 (N : Int)]) := Hid.mk (by simp [cellsOf]; omega)
          clear hdl
          obtain ⟨_, _, _, _, _, d5⟩ := HDr.out.cells
          clear hNe hN
          go_wp2_with fail
          go_region_law (first
            | (have hA := A3; clear A3; go_simp; go_wp2_with (go_at_call 56; refine hA.out.mono ?_; rintro e w3 ⟨rfl, s3, t3⟩; have H4 := Hid.mk (HDr.out.call s3 t3); obtain ⟨_, _, _, _, _, k5⟩ := H4.out.cells; have k5a : (w3.alloc (.cells #[.int .u8 (N : Int)] 5)).cell? ⟨gF, 5, none⟩ = some v := (H4.out.kept ((Below.refl _ _).alloc (Nat.le_refl _) _)).cells.2.2.2.2.2; clear s3 t3 hA))
            | (refine step_append_lies _ (by rfl) (.tmp 119) (.tmp 123) 22 (by rfl) top 5 i0 (.int .u8 0) 1 1 Tryz.underlying22 hi hz0 hz1 hz2 rfl (by decide) v (dlJ b.data.toList S j).2.length (cellsOf (dlJ b.data.toList S j).2) (by rfl) (H4.out.D.alloc _) ⟨w3.heap.size, 0, none⟩ 1 1 [Value.int .u8 N] (by rfl) rfl (by intro q u hq; match q, hq with | 0, hq => (simp at hq; subst hq; simp [Addr.add])) (by intro u hu; simp at hu; subst hu; rfl) (by decide) (by unfold maxLen; omega) (by omega) (by have := H4.out.ht; simp; omega) (w3.heap.size + 1) (by simp) ?_; intro g cap w5 hown hgrow hat hlt5; have hbT := Below.grown ((Below.refl top w3).alloc H4.out.ht _) hgrow (by have := H4.out.ht; simp; omega) (fun q hq => (H4.out.D.lt q hq).1); have hD5 : w5.ownsRow top 5 1 (.slice (some ⟨g, 0, none⟩) ((dlJ b.data.toList S j).2.length + 1) cap) ((dlJ b.data.toList S j).2 ++ [UInt8.ofNat N]).length (cellsOf ((dlJ b.data.toList S j).2 ++ [UInt8.ofNat N])) := (by rw [HC.out, List.length_append]; exact hown); obtain ⟨k6, z6, H6⟩ := H4.out.app hbT hD5; have H7 := Hid.mk H6; clear hown hgrow hat hlt5 hbT hD5 H6 H4 k5 k5a))
          all_goals focus
            go_wp2_with fail
            go_roundw
            case rel => exact ⟨j + 1, _, by omega, by go_num, by rw [HNX.out]; exact H7.out⟩
            case measure => simp [intOf]; omega
        · have hge : ¬ ((j : Int) < (m : Int)) := by omega
          have hgd : decide ((j : Int) < (m : Int)) = false := by simp; omega
          have hn15 : (n : Int) ≤ 15 := by omega
          have e : j = m := by omega
          subst e
          go_wp2_with fail
          apply HT.out
          exact ⟨_, H2.out⟩
      · have hz' : ((dlJ b.data.toList S j).1.fl == 0) = false := by simpa using hz
        have e := dlJ_stop b.data.toList S j hz (m - j)
        rw [show j + (m - j) = m by omega] at e
        have HE := Hid.mk e
        clear e
        go_wp2_with fail
        apply HT.out
        rw [HE.out]
        exact ⟨_, H1.out⟩
  · simp only [if_true] at HT
    obtain ⟨_, _, _, d3, _⟩ := H0.out.cells
    clear hI
    obtain ⟨_, _, _, _, cH1, _⟩ := H0.out.cells
    have zH1 := H0.out.frozen 4
    have H1 := Hid.mk (H0.out.sz' (n : Int))
    clear H0
    go_wp2_with fail
    apply HT.out
    exact ⟨_, H1.out⟩
end Bw
end Go.Proofs.YtemohjamcdkcmaaGreatDoor
namespace Go.Proofs.YtemohjamcdkcmaaGreatDoor
open Go.ChangeShapes Go.WideShapes Go.ChangeAt Go.RowKit
namespace Bw
open Bm Cm
set_option maxHeartbeats 8000000 in
set_option maxRecDepth 100000 in
theorem rb4 (tl : Code) (R0 : Ending → World → Prop) (w0 : World) (B top gb gr gF ga gf gh gq : Nat) (b : ByteArray) (w : World) (S : RS) (id : Int) (lo fa re : Bool) (sz : Int) (v : Value) (dt : List UInt8) (h1000 : b.size ≤ 1000) (hb : rowB b.data.toList = true) (hI : Inv b.data.toList S 553) (hD : ∀ W, Below B w0 W → W.cell? ⟨5, 1, none⟩ = some (.int .u8 1)) 
    (h : RB w0 B top gb gr gF ga gf gh gq b w S id lo fa re sz v dt)
    (hT : ∀ (x0 x3 x4 x12 x13 x14 x15 x17 x18 x19 x20 x21 x22 x23 x24 x25 x26 x27 x28 x29 x30 x31 x32 x33 x34 x35 x36 x37 x38 x39 x40 x41 x42 x43 x44 x45 x46 x47 x48 x49 x50 x51 x52 x53 x54 x55 x56 x57 x58 x59 x60 x61 x62 x63 x64 x65 x66 x67 x68 x69 x70 x71 x72 x73 x74 x75 x76 x77 x78 x79 x80 x81 x82 x83 x84 x85 x86 x87 x88 x89 x90 x91 x92 x93 x94 x95 x96 x97 x98 x99 x100 x101 x102 x103 x104 x105 x106 x107 x108 x109 x110 x111 x112 x113 x114 x115 x116 x117 x118 x119 x120 x121 x122 x123 x124 x125 x126 x127 x128 x129 x130 x131 x132 x133 x134 x135 x136 x137 x138 x139 x140 x141 x142 x143 x144 x145 x146 x147 x148 x149 x150 x151 x152 x153 x154 x155 x156 x157 x158 x159 x160 x161 x162 x163 x164 x165 x166 x167 x168 x169 x170 x171 x172 x173 x174 x175 x176 x177 x178 x179 x180 x181 x182 x183 x184 x185 x186 x187 x188 x189 x190 x191 x192 x193 x194 x195 x196 x197 x198 x199 x200 x201 x202 x203 x204 x205 x206 x207 x208 x209 x210 x211 : Value) (w' : World), RB w0 B top gb gr gF ga gf gh gq b w' (if S.fl = 0 then (if fa then S else sumJ b.data.toList S) else S) id lo fa re sz v dt → tl.wp Tryz.prog (bodyPost Tryz.prog Tryz.f20 R0) ⟨#[x0, .pointer (some ⟨gb, 0, none⟩), .pointer (some ⟨gr, 0, none⟩), x3, x4, .pointer (some ⟨gF, 0, none⟩), .pointer (some ⟨ga, 0, none⟩), .pointer (some ⟨gf, 0, none⟩), .pointer (some ⟨gh, 0, none⟩), .pointer (some ⟨gq, 0, none⟩), .func (.func 56) #[] #[.pointer (some ⟨gq, 0, none⟩)], .func (.func 57) #[] #[.pointer (some ⟨gf, 0, none⟩)], x12, x13, x14, x15, .func (.func 58) #[] #[.pointer (some ⟨gf, 0, none⟩), .pointer (some ⟨ga, 0, none⟩), .pointer (some ⟨gb, 0, none⟩)], x17, x18, x19, x20, x21, x22, x23, x24, x25, x26, x27, x28, x29, x30, x31, x32, x33, x34, x35, x36, x37, x38, x39, x40, x41, x42, x43, x44, x45, x46, x47, x48, x49, x50, x51, x52, x53, x54, x55, x56, x57, x58, x59, x60, x61, x62, x63, x64, x65, x66, x67, x68, x69, x70, x71, x72, x73, x74, x75, x76, x77, x78, x79, x80, x81, x82, x83, x84, x85, x86, x87, x88, x89, x90, x91, x92, x93, x94, x95, x96, x97, x98, x99, x100, x101, x102, x103, x104, x105, x106, x107, x108, x109, x110, x111, x112, x113, x114, x115, x116, x117, x118, x119, x120, x121, x122, x123, x124, x125, x126, x127, x128, x129, x130, x131, x132, x133, x134, x135, x136, x137, x138, x139, x140, x141, x142, x143, x144, x145, x146, x147, x148, x149, x150, x151, x152, x153, x154, x155, x156, x157, x158, x159, x160, x161, x162, x163, x164, x165, x166, x167, x168, x169, x170, x171, x172, x173, x174, x175, x176, x177, x178, x179, x180, x181, x182, x183, x184, x185, x186, x187, x188, x189, x190, x191, x192, x193, x194, x195, x196, x197, x198, x199, x200, x201, x202, x203, x204, x205, x206, x207, x208, x209, x210, x211], []⟩ w')
    (u0 u3 u4 u12 u13 u14 u15 u16 u17 u18 u19 u20 u21 u22 u23 u24 u25 u26 u27 u28 u29 u30 u31 u32 u33 u34 u35 u36 u37 u38 u39 u40 u41 u42 u43 u44 u45 u46 u47 u48 u49 u50 u51 u52 u53 u54 u55 u56 u57 u58 u59 u60 u61 u62 u63 u64 u65 u66 u67 u68 u69 u70 u71 u72 u73 u74 u75 u76 u77 u78 u79 u80 u81 u82 u83 u84 u85 u86 u87 u88 u89 u90 u91 u92 u93 u94 u95 u96 u97 u98 u99 u100 u101 u102 u103 u104 u105 u106 u107 u108 u109 u110 u111 u112 u113 u114 u115 u116 u117 u118 u119 u120 u121 u122 u123 u124 u125 u126 u127 u128 u129 u130 u131 u132 u133 u134 u135 u136 u137 u138 u139 u140 u141 u142 u143 u144 u145 u146 u147 u148 u149 u150 u151 u152 u153 u154 u155 u156 u157 u158 u159 u160 u161 u162 u163 u164 u165 u166 u167 u168 u169 u170 u171 u172 u173 u174 u175 u176 u177 u178 u179 u180 u181 u182 u183 u184 u185 u186 u187 u188 u189 u190 u191 u192 u193 u194 u195 u196 u197 u198 u199 u200 u201 u202 u203 u204 u205 u206 u207 u208 u209 u210 u211 : Value) : (withTail 2 (dropSeq 16 rbBody) tl).wp Tryz.prog (bodyPost Tryz.prog Tryz.f20 R0) ⟨#[u0, .pointer (some ⟨gb, 0, none⟩), .pointer (some ⟨gr, 0, none⟩), u3, u4, .pointer (some ⟨gF, 0, none⟩), .pointer (some ⟨ga, 0, none⟩), .pointer (some ⟨gf, 0, none⟩), .pointer (some ⟨gh, 0, none⟩), .pointer (some ⟨gq, 0, none⟩), .func (.func 56) #[] #[.pointer (some ⟨gq, 0, none⟩)], .func (.func 57) #[] #[.pointer (some ⟨gf, 0, none⟩)], u12, u13, u14, u15, u16, u17, u18, u19, u20, u21, u22, u23, u24, u25, u26, u27, u28, u29, u30, u31, u32, u33, u34, u35, u36, u37, u38, u39, u40, u41, u42, u43, u44, u45, u46, u47, u48, u49, u50, u51, u52, u53, u54, u55, u56, u57, u58, u59, u60, u61, u62, u63, u64, u65, u66, u67, u68, u69, u70, u71, u72, u73, u74, u75, u76, u77, u78, u79, u80, u81, u82, u83, u84, u85, u86, u87, u88, u89, u90, u91, u92, u93, u94, u95, u96, u97, u98, u99, u100, u101, u102, u103, u104, u105, u106, u107, u108, u109, u110, u111, u112, u113, u114, u115, u116, u117, u118, u119, u120, u121, u122, u123, u124, u125, u126, u127, u128, u129, u130, u131, u132, u133, u134, u135, u136, u137, u138, u139, u140, u141, u142, u143, u144, u145, u146, u147, u148, u149, u150, u151, u152, u153, u154, u155, u156, u157, u158, u159, u160, u161, u162, u163, u164, u165, u166, u167, u168, u169, u170, u171, u172, u173, u174, u175, u176, u177, u178, u179, u180, u181, u182, u183, u184, u185, u186, u187, u188, u189, u190, u191, u192, u193, u194, u195, u196, u197, u198, u199, u200, u201, u202, u203, u204, u205, u206, u207, u208, u209, u210, u211], []⟩ w := by
  show Code.wp _ (.seq _ (.seq _ tl)) _ _ _
  have HT := Hid.mk hT
  have HB := Hid.mk hb
  clear hT hb
  have l0 := Hid.mk hI.n
  have hIt := Hid.mk (fun j => hI.tJ HB.out j)
  have hro := Hid.mk hI.row
  have hol := hI.n
  have hf := h.st.f.cell
  have hh := h.st.h.cell
  obtain ⟨_, _, d2, _⟩ := h.cells
  have H0 := Hid.mk h
  clear h
  by_cases hz : S.fl = 0
  · rw [if_pos hz] at HT
    rw [hz] at hf
    cases fa
    · have A1 := Hid.mk (Ww.sumOf_any 0 ⟨S.o.toArray⟩ w (hD w H0.out.bel) (by omega) (by rw [mk_size]; omega) (by rw [mk_list]; exact hro.out))
      rw [mk_list] at A1
      clear hol hI
      go_wp2_with fail
      refine A1.out.mono ?_
      rintro e w1 ⟨rfl, hb1⟩
      have H1 := Hid.mk (H0.out.kept hb1)
      clear hb1 A1 H0 hf hh d2
      obtain ⟨X, hX⟩ : ∃ X, X = ByteArray.mk (bitsHead (sumV 0 S.o) (kS 0) (kS 0)).toArray := ⟨_, rfl⟩
      rw [← hX]
      have hXl : X.data.toList = sumL 0 S.o := by rw [hX]; rfl
      have HX := Hid.mk hXl
      clear hX hXl
      go_wp2_with fail
      go_loopw [15, 135] (fun g i wr => ∃ (j : Nat) (G : ByteArray), j ≤ 15 ∧ i = .int .i64 j ∧ g = .string G ∧ G.data.toList = (tJ b.data.toList S j).1 ∧ RB w0 B top gb gr gF ga gf gh gq b wr (tJ b.data.toList S j).2 id lo false re sz v dt) (fun _ i _ => 15 - (intOf i).toNat)
      case atStart => exact ⟨0, ⟨#[]⟩, by omega, rfl, rfl, rfl, H1.out⟩
      case round =>
        clear H1
        obtain ⟨j, G, hj, rfl, rfl, hG, hR⟩ := hrel
        have HG := Hid.mk hG
        have hGs : G.size ≤ 15 := by
          have e : G.size = j := by rw [ba_size hG, tJ_len]
          omega
        clear hG
        by_cases hlt : j < 15
        · have hlt' : (j : Int) < 15 := by omega
          have H2 := Hid.mk hR
          clear hR
          have q2 := H2.out.bit
          have A2 := Hid.mk (bit1_any gb gh gf ga b (tJ b.data.toList S j).2 wr H2.out.st h1000 (by have := (hIt.out j).n; omega))
          go_wp2_with fail
          refine A2.out.mono ?_
          rintro e w2 ⟨rfl, s2, t2⟩
          have H3 := Hid.mk (H2.out.call s2 t2)
          clear s2 t2 A2 H2 q2
          go_wp2_with fail
          go_roundw
          case rel =>
            refine ⟨j + 1, _, by omega, by go_num, rfl, ?_, H3.out⟩
            rw [ba_cat, HG.out]; rfl
          case measure => simp [intOf]; omega
        · have e : j = 15 := by omega
          subst e
          have H2 := Hid.mk hR
          clear hR
          have A2 := Hid.mk (must3_any gb gh gf ga b (tJ b.data.toList S 15).2 (G.toList == X.toList) 6 wr H2.out.st)
          go_wp2_with fail
          refine A2.out.mono ?_
          rintro e w2 ⟨rfl, s2, t2⟩
          have e2 : (G.toList == X.toList) = ((tJ b.data.toList S 15).1 == sumL 0 S.o) := by rw [ByteArray.toList_eq, ByteArray.toList_eq, HG.out, HX.out]
          rw [e2] at s2
          have H3 := Hid.mk (H2.out.call s2 t2)
          clear s2 t2 A2 H2 e2
          go_wp2_with fail
          apply HT.out
          exact H3.out
    · clear hol hI
      go_wp2_with fail
      apply HT.out
      exact H0.out
  · rw [if_neg hz] at HT
    have hz' : (S.fl == 0) = false := by simpa using hz
    clear hol hI
    go_wp2_with fail
    apply HT.out
    exact H0.out
end Bw
end Go.Proofs.YtemohjamcdkcmaaGreatDoor
namespace Go.Proofs.YtemohjamcdkcmaaGreatDoor
open Go.ChangeShapes Go.WideShapes Go.ChangeAt Go.RowKit
namespace Bw
open Bm Cm
theorem toNat_ne (a c : UInt8) : ((a.toNat : Int) != (c.toNat : Int)) = (a != c) := by
  by_cases h : a = c
  · subst h; simp
  · have h1 : (a != c) = true := by simpa using h
    rw [h1]
    simp only [bne_iff_ne, ne_eq]
    intro e
    exact h (UInt8.toNat_inj.1 (by omega))
theorem isBytes_ownB {w : World} {base : Nat} {v : Value} {n : Nat} {l : List UInt8} (h : w.ownsRow base 5 1 v n (cellsOf l)) :
    ∃ a cap, v = .slice a n cap ∧ IsBytes w a n cap l ∧ ∀ x, a = some x → base ≤ x.block := by
  have h0 := h
  obtain ⟨hl, h2⟩ := h
  have hn : l.length = n := by simpa [cellsOf] using hl
  rcases h2 with ⟨rfl, h1⟩ | ⟨g, cap, cur, rfl, hg, hh, hc, hm, hsz, htk⟩
  · subst h1; exact ⟨none, 0, rfl, ⟨hn, Nat.le_refl _, Nat.zero_le _, (fun _ => rfl), (fun x hx => by cases hx)⟩, fun x hx => by cases hx⟩
  · refine ⟨some ⟨g, 0, none⟩, cap, rfl, ⟨hn, hc, hm, (fun h => by cases h), fun x hx i hi => ?_⟩, fun x hx => by cases hx; exact hg⟩
    cases hx
    exact h0.cells rfl i _ (by simp [cellsOf, hn, hi])
set_option maxHeartbeats 8000000 in
set_option maxRecDepth 100000 in
theorem rb5 (tl : Code) (R0 : Ending → World → Prop) (w0 : World) (B top gb gr gF ga gf gh gq : Nat) (b : ByteArray) (w : World) (S : RS) (id : Int) (lo fa re : Bool) (sz : Int) (v : Value) (dt : List UInt8) (h1000 : b.size ≤ 1000) (hb : rowB b.data.toList = true) (hU : S.fl = 0 → fa = true → 1 ≤ S.u ∧ S.u ≤ 900 ∧ S.u ≤ b.size ∧ S.o.length ≤ S.u ∧ dt.length ≤ 64) (hD : ∀ W, Below B w0 W → W.cell? ⟨5, 1, none⟩ = some (.int .u8 1)) 
    (h : RB w0 B top gb gr gF ga gf gh gq b w S id lo fa re sz v dt)
    (hT : ∀ (x0 x3 x4 x12 x13 x14 x15 x17 x18 x19 x20 x21 x22 x23 x24 x25 x26 x27 x28 x29 x30 x31 x32 x33 x34 x35 x36 x37 x38 x39 x40 x41 x42 x43 x44 x45 x46 x47 x48 x49 x50 x51 x52 x53 x54 x55 x56 x57 x58 x59 x60 x61 x62 x63 x64 x65 x66 x67 x68 x69 x70 x71 x72 x73 x74 x75 x76 x77 x78 x79 x80 x81 x82 x83 x84 x85 x86 x87 x88 x89 x90 x91 x92 x93 x94 x95 x96 x97 x98 x99 x100 x101 x102 x103 x104 x105 x106 x107 x108 x109 x110 x111 x112 x113 x114 x115 x116 x117 x118 x119 x120 x121 x122 x123 x124 x125 x126 x127 x128 x129 x130 x131 x132 x133 x134 x135 x136 x137 x138 x139 x140 x141 x142 x143 x144 x145 x146 x147 x148 x149 x150 x151 x152 x153 x154 x155 x156 x157 x158 x159 x160 x161 x162 x163 x164 x165 x166 x167 x168 x169 x170 x171 x172 x173 x174 x175 x176 x177 x178 x179 x180 x181 x182 x183 x184 x185 x186 x187 x188 x189 x190 x191 x192 x193 x194 x195 x196 x197 x198 x199 x200 x201 x202 x203 x204 x205 x206 x207 x208 x209 x210 x211 : Value) (w' : World), RB w0 B top gb gr gF ga gf gh gq b w' (if S.fl = 0 then (if fa then fixedJ b.data.toList S dt.length else S) else S) id lo fa re sz v dt → tl.wp Tryz.prog (bodyPost Tryz.prog Tryz.f20 R0) ⟨#[x0, .pointer (some ⟨gb, 0, none⟩), .pointer (some ⟨gr, 0, none⟩), x3, x4, .pointer (some ⟨gF, 0, none⟩), .pointer (some ⟨ga, 0, none⟩), .pointer (some ⟨gf, 0, none⟩), .pointer (some ⟨gh, 0, none⟩), .pointer (some ⟨gq, 0, none⟩), .func (.func 56) #[] #[.pointer (some ⟨gq, 0, none⟩)], .func (.func 57) #[] #[.pointer (some ⟨gf, 0, none⟩)], x12, x13, x14, x15, .func (.func 58) #[] #[.pointer (some ⟨gf, 0, none⟩), .pointer (some ⟨ga, 0, none⟩), .pointer (some ⟨gb, 0, none⟩)], x17, x18, x19, x20, x21, x22, x23, x24, x25, x26, x27, x28, x29, x30, x31, x32, x33, x34, x35, x36, x37, x38, x39, x40, x41, x42, x43, x44, x45, x46, x47, x48, x49, x50, x51, x52, x53, x54, x55, x56, x57, x58, x59, x60, x61, x62, x63, x64, x65, x66, x67, x68, x69, x70, x71, x72, x73, x74, x75, x76, x77, x78, x79, x80, x81, x82, x83, x84, x85, x86, x87, x88, x89, x90, x91, x92, x93, x94, x95, x96, x97, x98, x99, x100, x101, x102, x103, x104, x105, x106, x107, x108, x109, x110, x111, x112, x113, x114, x115, x116, x117, x118, x119, x120, x121, x122, x123, x124, x125, x126, x127, x128, x129, x130, x131, x132, x133, x134, x135, x136, x137, x138, x139, x140, x141, x142, x143, x144, x145, x146, x147, x148, x149, x150, x151, x152, x153, x154, x155, x156, x157, x158, x159, x160, x161, x162, x163, x164, x165, x166, x167, x168, x169, x170, x171, x172, x173, x174, x175, x176, x177, x178, x179, x180, x181, x182, x183, x184, x185, x186, x187, x188, x189, x190, x191, x192, x193, x194, x195, x196, x197, x198, x199, x200, x201, x202, x203, x204, x205, x206, x207, x208, x209, x210, x211], []⟩ w')
    (u0 u3 u4 u12 u13 u14 u15 u17 u18 u19 u20 u21 u22 u23 u24 u25 u26 u27 u28 u29 u30 u31 u32 u33 u34 u35 u36 u37 u38 u39 u40 u41 u42 u43 u44 u45 u46 u47 u48 u49 u50 u51 u52 u53 u54 u55 u56 u57 u58 u59 u60 u61 u62 u63 u64 u65 u66 u67 u68 u69 u70 u71 u72 u73 u74 u75 u76 u77 u78 u79 u80 u81 u82 u83 u84 u85 u86 u87 u88 u89 u90 u91 u92 u93 u94 u95 u96 u97 u98 u99 u100 u101 u102 u103 u104 u105 u106 u107 u108 u109 u110 u111 u112 u113 u114 u115 u116 u117 u118 u119 u120 u121 u122 u123 u124 u125 u126 u127 u128 u129 u130 u131 u132 u133 u134 u135 u136 u137 u138 u139 u140 u141 u142 u143 u144 u145 u146 u147 u148 u149 u150 u151 u152 u153 u154 u155 u156 u157 u158 u159 u160 u161 u162 u163 u164 u165 u166 u167 u168 u169 u170 u171 u172 u173 u174 u175 u176 u177 u178 u179 u180 u181 u182 u183 u184 u185 u186 u187 u188 u189 u190 u191 u192 u193 u194 u195 u196 u197 u198 u199 u200 u201 u202 u203 u204 u205 u206 u207 u208 u209 u210 u211 : Value) : (withTail 1 (dropSeq 18 rbBody) tl).wp Tryz.prog (bodyPost Tryz.prog Tryz.f20 R0) ⟨#[u0, .pointer (some ⟨gb, 0, none⟩), .pointer (some ⟨gr, 0, none⟩), u3, u4, .pointer (some ⟨gF, 0, none⟩), .pointer (some ⟨ga, 0, none⟩), .pointer (some ⟨gf, 0, none⟩), .pointer (some ⟨gh, 0, none⟩), .pointer (some ⟨gq, 0, none⟩), .func (.func 56) #[] #[.pointer (some ⟨gq, 0, none⟩)], .func (.func 57) #[] #[.pointer (some ⟨gf, 0, none⟩)], u12, u13, u14, u15, .func (.func 58) #[] #[.pointer (some ⟨gf, 0, none⟩), .pointer (some ⟨ga, 0, none⟩), .pointer (some ⟨gb, 0, none⟩)], u17, u18, u19, u20, u21, u22, u23, u24, u25, u26, u27, u28, u29, u30, u31, u32, u33, u34, u35, u36, u37, u38, u39, u40, u41, u42, u43, u44, u45, u46, u47, u48, u49, u50, u51, u52, u53, u54, u55, u56, u57, u58, u59, u60, u61, u62, u63, u64, u65, u66, u67, u68, u69, u70, u71, u72, u73, u74, u75, u76, u77, u78, u79, u80, u81, u82, u83, u84, u85, u86, u87, u88, u89, u90, u91, u92, u93, u94, u95, u96, u97, u98, u99, u100, u101, u102, u103, u104, u105, u106, u107, u108, u109, u110, u111, u112, u113, u114, u115, u116, u117, u118, u119, u120, u121, u122, u123, u124, u125, u126, u127, u128, u129, u130, u131, u132, u133, u134, u135, u136, u137, u138, u139, u140, u141, u142, u143, u144, u145, u146, u147, u148, u149, u150, u151, u152, u153, u154, u155, u156, u157, u158, u159, u160, u161, u162, u163, u164, u165, u166, u167, u168, u169, u170, u171, u172, u173, u174, u175, u176, u177, u178, u179, u180, u181, u182, u183, u184, u185, u186, u187, u188, u189, u190, u191, u192, u193, u194, u195, u196, u197, u198, u199, u200, u201, u202, u203, u204, u205, u206, u207, u208, u209, u210, u211], []⟩ w := by
  show Code.wp _ (.seq _ tl) _ _ _
  have HT := Hid.mk hT
  have HB := Hid.mk hb
  clear hT hb
  have hf := h.st.f.cell
  obtain ⟨_, _, d2, _, _, d5⟩ := h.cells
  have H0 := Hid.mk h
  clear h
  by_cases hz : S.fl = 0
  · rw [if_pos hz] at HT
    cases fa
    · rw [hz] at hf
      clear hU
      go_wp2_with fail
      apply HT.out
      exact H0.out
    · obtain ⟨u1, u2, u3, u4', u5'⟩ := hU hz rfl
      clear hU
      obtain ⟨da, dc, rfl, _, _⟩ := isBytes_ownB H0.out.D
      have hb' := H0.out.st.b.cell
      have hh := H0.out.st.h.cell
      have ha := H0.out.st.a.cell
      rw [hz] at hf
      have hPl : (b.extract 0 S.u).data.toList = b.data.toList.take S.u := by
        have := extract_list b 0 S.u
        rw [Nat.zero_add] at this
        rw [this, List.drop_zero]
      have hsl : ∀ W, (Instr.slice 9 (.string b) none (some (.int .i64 (S.u : Int))) none).run Tryz.prog W = .ok (.string (b.extract 0 S.u)) W := by
        intro W
        rw [run_slice_string_h W _ b Tryz.underlying9 .i64 _ (by omega) (by omega)]
        rw [show ((S.u : Int)).toNat = S.u by omega]
      generalize b.extract 0 S.u = P at *
      have hPs : P.size = S.u := by rw [ba_size hPl, List.length_take]; have : b.data.toList.length = b.size := by simp
                                    omega
      have hPr : rowB P.data.toList = true := by rw [hPl]; exact rowB_take HB.out _
      have hL := fast_len5 S.o (b.data.toList.take S.u) dt.length
      have A1 := Hid.mk (fastEnd_any ⟨S.o.toArray⟩ P dt.length w (hD w H0.out.bel) (by rw [mk_size]; omega) (by omega) (by omega) hPr (by omega))
      rw [mk_list, hPl] at A1
      have hpz : P.size - 1 < P.size := by omega
      have hpi : P[P.size - 1] = lastB (b.data.toList.take S.u) := by rw [at_getD P _ hpz, hPl]; unfold lastB; rw [← hPl]; simp
      have hP1 : (1 : Int) ≤ (P.size : Int) := by omega
      have hP2 : (P.size : Int) ≤ 900 := by omega
      have HPL := Hid.mk hPl
      have HPR := Hid.mk hPr
      have HPS := Hid.mk hPs
      have HL := Hid.mk hL
      have HU := Hid.mk (And.intro u1 u3)
      clear hPl hPr hPs hL u1 u2 u3 u4' u5'
      go_wp2_with fail
      refine A1.out.mono ?_
      rintro e w1 ⟨rfl, hb1⟩
      have H1 := Hid.mk (H0.out.kept hb1)
      clear hb1 A1 H0 hf hb' hh ha d2 d5 hsl
      obtain ⟨Wt, hWt⟩ : ∃ Wt, Wt = ByteArray.mk (fastL S.o (b.data.toList.take S.u) dt.length).toArray := ⟨_, rfl⟩
      rw [← hWt]
      have hWl : Wt.data.toList = (fastL S.o (b.data.toList.take S.u) dt.length) := by rw [hWt]
      have hWs : Wt.size = (fastL S.o (b.data.toList.take S.u) dt.length).length := by rw [ba_size hWl]
      have HWL := Hid.mk hWl
      have HWS := Hid.mk hWs
      have hW32 : Wt.size ≤ 32 := by have := HL.out.2; omega
      clear hWt hWl hWs
      have A2 := Hid.mk (plain4_any gb gh gf ga Wt.size b S w1 H1.out.st h1000 (by have := HU.out; omega) (by omega))
      go_wp2_with fail
      refine A2.out.mono ?_
      rintro e w2 ⟨rfl, s2, t2⟩
      have H2 := Hid.mk (H1.out.call s2 t2)
      clear s2 t2 A2 H1
      obtain ⟨G, hG⟩ : ∃ G, G = ByteArray.mk (nextP b.data.toList S Wt.size).1.toArray := ⟨_, rfl⟩
      rw [← hG]
      have hGl : G.data.toList = (nextP b.data.toList S Wt.size).1 := by rw [hG]
      have hGs : G.size ≤ 32 := by rw [ba_size hGl]; have := nextP_len b.data.toList S Wt.size; omega
      have HGL := Hid.mk hGl
      clear hG hGl
      go_wp2_with fail
      go_loopw [20] (fun i wr => ∃ j : Nat, 5 * j ≤ G.size + 4 ∧ i = .int .i64 ((5 * j : Nat) : Int) ∧ RB w0 B top gb gr gF ga gf gh gq b wr (fxJ G.data.toList (lastB (b.data.toList.take S.u)) (nextP b.data.toList S Wt.size).2 j) id lo true re sz (.slice da dt.length dc) dt) (fun i _ => 40 - (intOf i).toNat)
      case atStart => exact ⟨0, by omega, rfl, H2.out⟩
      case round =>
        clear H2
        obtain ⟨j, hj, rfl, hR⟩ := hrel
        have H3 := Hid.mk hR
        clear hR
        obtain ⟨i, hi⟩ : ∃ i : Nat, i = 5 * j := ⟨_, rfl⟩
        rw [← hi]
        have HI := Hid.mk hi
        have hi4 : i ≤ G.size + 4 := by omega
        clear hi hj
        by_cases hlt : i < G.size
        · have hlt' : (i : Int) < (G.size : Int) := by omega
          obtain ⟨ci, hci⟩ : ∃ c, c = G[i] := ⟨_, rfl⟩
          have hgi : G[i] = ci := hci.symm
          have HGI := Hid.mk (show G.data.toList.getD (5 * j) 0 = ci by rw [← HI.out, hci, at_getD G i hlt])
          clear hci
          by_cases h0 : i = 0
          · have hj0 : j = 0 := by have := HI.out; omega
            have HFX := Hid.mk (show fxB G.data.toList (lastB (b.data.toList.take S.u)) j = lastB (b.data.toList.take S.u) by unfold fxB; rw [if_pos hj0])
            obtain ⟨lb, hlb⟩ : ∃ c, c = lastB (b.data.toList.take S.u) := ⟨_, rfl⟩
            rw [← hlb] at hpi
            have HLB := Hid.mk hlb
            clear hlb hj0
            subst h0
            go_wp2_with fail
            refine (must3_any gb gh gf ga b (fxJ G.data.toList (lastB (b.data.toList.take S.u)) (nextP b.data.toList S Wt.size).2 j) _ 5 wr H3.out.st).mono ?_
            rintro e w4 ⟨rfl, s4, t4⟩
            have e4 : mustM (fxJ G.data.toList (lastB (b.data.toList.take S.u)) (nextP b.data.toList S Wt.size).2 j) (((ci.toNat : Int)) != ((lb).toNat : Int)) 5 = (fxJ G.data.toList (lastB (b.data.toList.take S.u)) (nextP b.data.toList S Wt.size).2 (j + 1)) := by
              rw [toNat_ne]
              show _ = mustM _ (G.data.toList.getD (5 * j) 0 != fxB G.data.toList (lastB (b.data.toList.take S.u)) j) 5
              rw [HGI.out, HFX.out, HLB.out]
            rw [e4] at s4
            have H4 := Hid.mk (H3.out.call s4 t4)
            clear s4 t4 H3 e4
            go_wp2_with fail
            go_roundw
            case rel => exact ⟨j + 1, by have := HI.out; omega, int_eq (by have := HI.out; omega), H4.out⟩
            case measure => first | (simp [intOf]; done) | (simp [intOf]; omega)
          · have h0' : (0 : Int) < (i : Int) := by omega
            have hm : i - 1 < G.size := by omega
            obtain ⟨cm, hcm⟩ : ∃ c, c = G[i - 1] := ⟨_, rfl⟩
            have hgm : G[i - 1] = cm := hcm.symm
            have HFX := Hid.mk (show fxB G.data.toList (lastB (b.data.toList.take S.u)) j = cm by unfold fxB; rw [if_neg (by have := HI.out; omega), ← HI.out, hcm, at_getD G (i - 1) hm])
            clear hcm
            go_wp2_with fail
            refine (must3_any gb gh gf ga b (fxJ G.data.toList (lastB (b.data.toList.take S.u)) (nextP b.data.toList S Wt.size).2 j) _ 5 wr H3.out.st).mono ?_
            rintro e w4 ⟨rfl, s4, t4⟩
            have e4 : mustM (fxJ G.data.toList (lastB (b.data.toList.take S.u)) (nextP b.data.toList S Wt.size).2 j) (((ci.toNat : Int)) != ((cm).toNat : Int)) 5 = (fxJ G.data.toList (lastB (b.data.toList.take S.u)) (nextP b.data.toList S Wt.size).2 (j + 1)) := by
              rw [toNat_ne]
              show _ = mustM _ (G.data.toList.getD (5 * j) 0 != fxB G.data.toList (lastB (b.data.toList.take S.u)) j) 5
              rw [HGI.out, HFX.out]
            rw [e4] at s4
            have H4 := Hid.mk (H3.out.call s4 t4)
            clear s4 t4 H3 e4
            go_wp2_with fail
            go_roundw
            case rel => exact ⟨j + 1, by have := HI.out; omega, by rw [HI.out]; go_num, H4.out⟩
            case measure => simp [intOf]; omega
        · have hge : (G.size : Int) ≤ (i : Int) := by omega
          have A4 := Hid.mk (must3_any gb gh gf ga b (fxJ G.data.toList (lastB (b.data.toList.take S.u)) (nextP b.data.toList S Wt.size).2 j) (G.toList == Wt.toList) 6 wr H3.out.st)
          go_wp2_with fail
          refine A4.out.mono ?_
          rintro e w4 ⟨rfl, s4, t4⟩
          have e2 : (G.toList == Wt.toList) = ((nextP b.data.toList S (fastL S.o (b.data.toList.take S.u) dt.length).length).1 == (fastL S.o (b.data.toList.take S.u) dt.length)) := by rw [ByteArray.toList_eq, ByteArray.toList_eq, HGL.out, HWL.out, HWS.out]
          have hlen : G.size = (nextP b.data.toList S Wt.size).1.length := by rw [ba_size HGL.out]
          have ej : j = ((nextP b.data.toList S Wt.size).1.length + 4) / 5 := by have := HI.out; omega
          rw [e2, HGL.out, ej, HWS.out] at s4
          have H4 := Hid.mk (H3.out.call s4 t4)
          clear s4 t4 A4 H3 e2 hlen ej
          go_wp2_with fail
          apply HT.out
          exact H4.out
  · rw [if_neg hz] at HT
    have hz' : (S.fl == 0) = false := by simpa using hz
    clear hU
    go_wp2_with fail
    apply HT.out
    exact H0.out
end Bw
end Go.Proofs.YtemohjamcdkcmaaGreatDoor
namespace Go.Proofs.YtemohjamcdkcmaaGreatDoor
open Go.ChangeShapes Go.WideShapes Go.ChangeAt Go.RowKit
namespace Bw
open Bm Cm
theorem frame_iB : (Tryz.prog.info? 24).map (·.size) = some 6 := by kernel_rfl
theorem row_drewB {w : World} {g : Nat} {o : Obj} (h : w.heap[g]? = some o) : w.drew.heap[g]? = some o := h
theorem isBytes_tchB {gs : List Nat} {w w' : World} {a : Option Addr} {len cap : Nat} {l : List UInt8} (hb : IsBytes w a len cap l) (ht : Tch gs w w') (hg : ∀ x, a = some x → x.block ∉ gs) : IsBytes w'.drew a len cap l := by
  refine ⟨hb.1, hb.2.1, hb.2.2.1, hb.2.2.2.1, fun x hx i hi => ?_⟩
  have hv := hb.2.2.2.2 x hx i hi
  have hlt := block_lt_of_cell hv
  have hblk : (x.add i).block = x.block := by unfold Addr.add; split <;> rfl
  show w'.cell? (x.add i) = _
  unfold World.cell? at hv ⊢
  rw [ht.block _ hlt (by rw [hblk]; exact hg x hx)]
  exact hv
theorem rb_results (tmps : Array Value) (w : World) (g : Nat) (cs : Array Value) (x y : Value) (hp : tmps.getD 2 undef = .pointer (some ⟨g, 0, none⟩)) (hx : tmps.getD 3 undef = x) (hy : tmps.getD 4 undef = y) (h : w.heap[g]? = some (.cells cs 24 (0, 0))) (hs : cs.size = 6) :
    (results Tryz.f20 tmps).run Tryz.prog w = .ok (.tuple #[.agg cs, x, y]) w := by
  have hl := run_loadVar_row (P := Tryz.prog) w g 24 24 cs (0, 0) _ h Tryz.underlying24 rfl (by rw [frame_iB, hs])
  have hp' : tmps[2]?.getD undef = .pointer (some ⟨g, 0, none⟩) := by simpa using hp
  have hx' : tmps[3]?.getD undef = x := by simpa using hx
  have hy' : tmps[4]?.getD undef = y := by simpa using hy
  simp [results, hp', hx', hy', asAddr, hl]
set_option maxHeartbeats 8000000 in
set_option maxRecDepth 100000 in
theorem rb6 (R0 : Ending → World → Prop) (w0 : World) (B top gb gr gF ga gf gh gq : Nat) (b : ByteArray) (w : World) (S : RS) (id : Int) (lo fa re : Bool) (sz : Int) (v : Value) (dt : List UInt8) (h1000 : b.size ≤ 1000) (hb : rowB b.data.toList = true) (hI : Inv b.data.toList S 568) 
    (h : RB w0 B top gb gr gF ga gf gh gq b w S id lo fa re sz v dt)
    (hR1 : ∀ w', (endJ b.data.toList S).fl ≠ 0 → Below B w0 w' → R0 (.returned (.tuple #[.agg #[.int .i64 0, .bool false, .bool false, .bool false, .int .i64 0, .slice none 0 0], .int .i64 0, .int .i64 (endJ b.data.toList S).fl])) w')
    (hR2 : ∀ w' a cap, (endJ b.data.toList S).fl = 0 → IsBytes w' a dt.length cap dt → Below B w0 w' → R0 (.returned (.tuple #[.agg #[.int .i64 id, .bool lo, .bool fa, .bool re, .int .i64 sz, .slice a dt.length cap], .int .i64 ((endJ b.data.toList S).u : Int), .int .i64 0])) w')
    (u0 u3 u4 u12 u13 u14 u15 u17 u18 u19 u20 u21 u22 u23 u24 u25 u26 u27 u28 u29 u30 u31 u32 u33 u34 u35 u36 u37 u38 u39 u40 u41 u42 u43 u44 u45 u46 u47 u48 u49 u50 u51 u52 u53 u54 u55 u56 u57 u58 u59 u60 u61 u62 u63 u64 u65 u66 u67 u68 u69 u70 u71 u72 u73 u74 u75 u76 u77 u78 u79 u80 u81 u82 u83 u84 u85 u86 u87 u88 u89 u90 u91 u92 u93 u94 u95 u96 u97 u98 u99 u100 u101 u102 u103 u104 u105 u106 u107 u108 u109 u110 u111 u112 u113 u114 u115 u116 u117 u118 u119 u120 u121 u122 u123 u124 u125 u126 u127 u128 u129 u130 u131 u132 u133 u134 u135 u136 u137 u138 u139 u140 u141 u142 u143 u144 u145 u146 u147 u148 u149 u150 u151 u152 u153 u154 u155 u156 u157 u158 u159 u160 u161 u162 u163 u164 u165 u166 u167 u168 u169 u170 u171 u172 u173 u174 u175 u176 u177 u178 u179 u180 u181 u182 u183 u184 u185 u186 u187 u188 u189 u190 u191 u192 u193 u194 u195 u196 u197 u198 u199 u200 u201 u202 u203 u204 u205 u206 u207 u208 u209 u210 u211 : Value) : (dropSeq 19 rbBody).wp Tryz.prog (bodyPost Tryz.prog Tryz.f20 R0) ⟨#[u0, .pointer (some ⟨gb, 0, none⟩), .pointer (some ⟨gr, 0, none⟩), u3, u4, .pointer (some ⟨gF, 0, none⟩), .pointer (some ⟨ga, 0, none⟩), .pointer (some ⟨gf, 0, none⟩), .pointer (some ⟨gh, 0, none⟩), .pointer (some ⟨gq, 0, none⟩), .func (.func 56) #[] #[.pointer (some ⟨gq, 0, none⟩)], .func (.func 57) #[] #[.pointer (some ⟨gf, 0, none⟩)], u12, u13, u14, u15, .func (.func 58) #[] #[.pointer (some ⟨gf, 0, none⟩), .pointer (some ⟨ga, 0, none⟩), .pointer (some ⟨gb, 0, none⟩)], u17, u18, u19, u20, u21, u22, u23, u24, u25, u26, u27, u28, u29, u30, u31, u32, u33, u34, u35, u36, u37, u38, u39, u40, u41, u42, u43, u44, u45, u46, u47, u48, u49, u50, u51, u52, u53, u54, u55, u56, u57, u58, u59, u60, u61, u62, u63, u64, u65, u66, u67, u68, u69, u70, u71, u72, u73, u74, u75, u76, u77, u78, u79, u80, u81, u82, u83, u84, u85, u86, u87, u88, u89, u90, u91, u92, u93, u94, u95, u96, u97, u98, u99, u100, u101, u102, u103, u104, u105, u106, u107, u108, u109, u110, u111, u112, u113, u114, u115, u116, u117, u118, u119, u120, u121, u122, u123, u124, u125, u126, u127, u128, u129, u130, u131, u132, u133, u134, u135, u136, u137, u138, u139, u140, u141, u142, u143, u144, u145, u146, u147, u148, u149, u150, u151, u152, u153, u154, u155, u156, u157, u158, u159, u160, u161, u162, u163, u164, u165, u166, u167, u168, u169, u170, u171, u172, u173, u174, u175, u176, u177, u178, u179, u180, u181, u182, u183, u184, u185, u186, u187, u188, u189, u190, u191, u192, u193, u194, u195, u196, u197, u198, u199, u200, u201, u202, u203, u204, u205, u206, u207, u208, u209, u210, u211], []⟩ w := by
  conv => arg 2; whnf
  have HR1 := Hid.mk hR1
  have HR2 := Hid.mk hR2
  have HB := Hid.mk hb
  clear hR1 hR2 hb
  have H0 := Hid.mk h
  have hul : S.u ≤ 1000 := by have := hI.u; have : b.data.toList.length = b.size := by simp
                              omega
  clear h hI
  have A1 := Hid.mk (plain4_any gb gh gf ga 10 b S w H0.out.st h1000 (by omega) (by omega))
  go_wp2_with fail
  refine A1.out.mono ?_
  rintro e w1 ⟨rfl, s1, t1⟩
  have H1 := Hid.mk (H0.out.call s1 t1)
  clear s1 t1 A1 H0 hul
  obtain ⟨E0, hE⟩ : ∃ E0, E0 = ByteArray.mk (nextP b.data.toList S 10).1.toArray := ⟨_, rfl⟩
  rw [← hE]
  have hEl : E0.data.toList = (nextP b.data.toList S 10).1 := by rw [hE]
  have HE := Hid.mk hEl
  clear hE hEl
  by_cases h1 : E0.data.toList = onesL
  · have HOK : Hid (((nextP b.data.toList S 10).1 == onesL || (nextP b.data.toList S 10).1 == heardL) = true) := Hid.mk (by rw [← HE.out, h1]; decide)
    have eE : E0 = ⟨#[49, 49, 49, 49, 49, 49, 49, 49, 49, 49]⟩ := ba_eq h1
    subst eE
    clear h1
    have A2 := Hid.mk (must3_any gb gh gf ga b (nextP b.data.toList S 10).2 true 4 w1 H1.out.st)
    go_wp2_with fail
    refine A2.out.mono ?_
    rintro e w2 ⟨rfl, s2, t2⟩
    have e2 : mustM (nextP b.data.toList S 10).2 true 4 = (endJ b.data.toList S) := by unfold endJ; rw [HOK.out]
    rw [e2] at s2
    have H2 := Hid.mk (H1.out.call s2 t2)
    clear s2 t2 A2 H1 e2
    by_cases hne : (endJ b.data.toList S).fl = 0
    · obtain ⟨da, dc, rfl, hby, hblk⟩ := isBytes_ownB H2.out.D
      have hz := H2.out.R
      have ks0 := heap_setCell_same w2 gr 0 _ _ (.int .i64 id) hz
      simp only [List.setIfInBounds_toArray, List.set_cons_zero] at ks0
      have ks1 := heap_setCell_same (w2.setCell ⟨gr, 0, none⟩ (.int .i64 id)) gr 1 _ _ (.bool lo) ks0
      simp only [List.setIfInBounds_toArray, List.set_cons_zero, List.set_cons_succ] at ks1
      have ks2 := heap_setCell_same ((w2.setCell ⟨gr, 0, none⟩ (.int .i64 id)).setCell ⟨gr, 1, none⟩ (.bool lo)) gr 2 _ _ (.bool fa) ks1
      simp only [List.setIfInBounds_toArray, List.set_cons_zero, List.set_cons_succ] at ks2
      have ks3 := heap_setCell_same (((w2.setCell ⟨gr, 0, none⟩ (.int .i64 id)).setCell ⟨gr, 1, none⟩ (.bool lo)).setCell ⟨gr, 2, none⟩ (.bool fa)) gr 3 _ _ (.bool re) ks2
      simp only [List.setIfInBounds_toArray, List.set_cons_zero, List.set_cons_succ] at ks3
      have ks4 := heap_setCell_same ((((w2.setCell ⟨gr, 0, none⟩ (.int .i64 id)).setCell ⟨gr, 1, none⟩ (.bool lo)).setCell ⟨gr, 2, none⟩ (.bool fa)).setCell ⟨gr, 3, none⟩ (.bool re)) gr 4 _ _ (.int .i64 sz) ks3
      simp only [List.setIfInBounds_toArray, List.set_cons_zero, List.set_cons_succ] at ks4
      have ks5 := heap_setCell_same (((((w2.setCell ⟨gr, 0, none⟩ (.int .i64 id)).setCell ⟨gr, 1, none⟩ (.bool lo)).setCell ⟨gr, 2, none⟩ (.bool fa)).setCell ⟨gr, 3, none⟩ (.bool re)).setCell ⟨gr, 4, none⟩ (.int .i64 sz)) gr 5 _ _ (.slice da dt.length dc) ks4
      simp only [List.setIfInBounds_toArray, List.set_cons_zero, List.set_cons_succ] at ks5
      have hT1 : Tch [gr] w2 ((((((w2.setCell ⟨gr, 0, none⟩ (.int .i64 id)).setCell ⟨gr, 1, none⟩ (.bool lo)).setCell ⟨gr, 2, none⟩ (.bool fa)).setCell ⟨gr, 3, none⟩ (.bool re)).setCell ⟨gr, 4, none⟩ (.int .i64 sz)).setCell ⟨gr, 5, none⟩ (.slice da dt.length dc)) := ((((((((Tch.refl [gr] w2).setK (by simp) _ _).setK (by simp) _ _).setK (by simp) _ _).setK (by simp) _ _).setK (by simp) _ _).setK (by simp) _ _))
      have HP := Hid.mk (Tch.below H2.out.bel hT1 (fun g hg => by have := H2.out.ge gr (by simp); simp at hg; omega) H2.out.hB).drew
      have HFIN := Hid.mk (row_drewB ks5)
      have b0 := cell_of_row w2 gr 0 _ _ _ hz
      simp at b0
      have f0 := frozen_of_row w2 gr 0 _ _ hz
      have b1 := cell_of_row w2 gr 1 _ _ _ hz
      simp at b1
      have f1 := frozen_of_row w2 gr 1 _ _ hz
      have b2 := cell_of_row w2 gr 2 _ _ _ hz
      simp at b2
      have f2 := frozen_of_row w2 gr 2 _ _ hz
      have b3 := cell_of_row w2 gr 3 _ _ _ hz
      simp at b3
      have f3 := frozen_of_row w2 gr 3 _ _ hz
      have b4 := cell_of_row w2 gr 4 _ _ _ hz
      simp at b4
      have f4 := frozen_of_row w2 gr 4 _ _ hz
      have b5 := cell_of_row w2 gr 5 _ _ _ hz
      simp at b5
      have f5 := frozen_of_row w2 gr 5 _ _ hz
      have HBY := Hid.mk (isBytes_tchB hby hT1 (fun x hx => by have := hblk x hx; have := H2.out.ge gr (by simp); simp; omega))
      have hf := H2.out.st.f.cell
      rw [hne] at hf
      have ha := H2.out.st.a.cell
      have pA := (H2.out.st.a.other (k := gr) (.int .i64 id) (by have nd := H2.out.nd; simp at nd; omega)).cell
      obtain ⟨c0, c1, c2, c3, c4, c5⟩ := H2.out.cells
      clear hT1 ks0 ks1 ks2 ks3 ks4 ks5 hz hby hblk
      go_wp2_with fail
      go_region
      all_goals focus
        go_wp2_with fail
        refine bodyPost_ret (rb_results _ _ gr _ _ _ rfl rfl rfl HFIN.out rfl) rfl ?_
        exact HR2.out _ _ _ hne HBY.out HP.out
    · have hz := H2.out.R
      have ks0 := heap_setCell_same w2 gr 0 _ _ (.int .i64 0) hz
      simp only [List.setIfInBounds_toArray, List.set_cons_zero] at ks0
      have ks1 := heap_setCell_same (w2.setCell ⟨gr, 0, none⟩ (.int .i64 0)) gr 1 _ _ (.bool false) ks0
      simp only [List.setIfInBounds_toArray, List.set_cons_zero, List.set_cons_succ] at ks1
      have ks2 := heap_setCell_same ((w2.setCell ⟨gr, 0, none⟩ (.int .i64 0)).setCell ⟨gr, 1, none⟩ (.bool false)) gr 2 _ _ (.bool false) ks1
      simp only [List.setIfInBounds_toArray, List.set_cons_zero, List.set_cons_succ] at ks2
      have ks3 := heap_setCell_same (((w2.setCell ⟨gr, 0, none⟩ (.int .i64 0)).setCell ⟨gr, 1, none⟩ (.bool false)).setCell ⟨gr, 2, none⟩ (.bool false)) gr 3 _ _ (.bool false) ks2
      simp only [List.setIfInBounds_toArray, List.set_cons_zero, List.set_cons_succ] at ks3
      have ks4 := heap_setCell_same ((((w2.setCell ⟨gr, 0, none⟩ (.int .i64 0)).setCell ⟨gr, 1, none⟩ (.bool false)).setCell ⟨gr, 2, none⟩ (.bool false)).setCell ⟨gr, 3, none⟩ (.bool false)) gr 4 _ _ (.int .i64 0) ks3
      simp only [List.setIfInBounds_toArray, List.set_cons_zero, List.set_cons_succ] at ks4
      have ks5 := heap_setCell_same (((((w2.setCell ⟨gr, 0, none⟩ (.int .i64 0)).setCell ⟨gr, 1, none⟩ (.bool false)).setCell ⟨gr, 2, none⟩ (.bool false)).setCell ⟨gr, 3, none⟩ (.bool false)).setCell ⟨gr, 4, none⟩ (.int .i64 0)) gr 5 _ _ (.slice none 0 0) ks4
      simp only [List.setIfInBounds_toArray, List.set_cons_zero, List.set_cons_succ] at ks5
      have hT1 : Tch [gr] w2 ((((((w2.setCell ⟨gr, 0, none⟩ (.int .i64 0)).setCell ⟨gr, 1, none⟩ (.bool false)).setCell ⟨gr, 2, none⟩ (.bool false)).setCell ⟨gr, 3, none⟩ (.bool false)).setCell ⟨gr, 4, none⟩ (.int .i64 0)).setCell ⟨gr, 5, none⟩ (.slice none 0 0)) := ((((((((Tch.refl [gr] w2).setK (by simp) _ _).setK (by simp) _ _).setK (by simp) _ _).setK (by simp) _ _).setK (by simp) _ _).setK (by simp) _ _))
      have HP := Hid.mk (Tch.below H2.out.bel hT1 (fun g hg => by have := H2.out.ge gr (by simp); simp at hg; omega) H2.out.hB).drew
      have HFIN := Hid.mk (row_drewB ks5)
      have b0 := cell_of_row w2 gr 0 _ _ _ hz
      simp at b0
      have f0 := frozen_of_row w2 gr 0 _ _ hz
      have b1 := cell_of_row w2 gr 1 _ _ _ hz
      simp at b1
      have f1 := frozen_of_row w2 gr 1 _ _ hz
      have b2 := cell_of_row w2 gr 2 _ _ _ hz
      simp at b2
      have f2 := frozen_of_row w2 gr 2 _ _ hz
      have b3 := cell_of_row w2 gr 3 _ _ _ hz
      simp at b3
      have f3 := frozen_of_row w2 gr 3 _ _ hz
      have b4 := cell_of_row w2 gr 4 _ _ _ hz
      simp at b4
      have f4 := frozen_of_row w2 gr 4 _ _ hz
      have b5 := cell_of_row w2 gr 5 _ _ _ hz
      simp at b5
      have f5 := frozen_of_row w2 gr 5 _ _ hz
      have hf := H2.out.st.f.cell
      have hne' : ((endJ b.data.toList S).fl != 0) = true := by simpa using hne
      have pF := (H2.out.st.f.other (k := gr) (.int .i64 0) (by have nd := H2.out.nd; simp at nd; omega)).cell
      clear hT1 ks0 ks1 ks2 ks3 ks4 ks5 hz
      go_wp2_with fail
      go_region
      all_goals focus
        go_wp2_with fail
        refine bodyPost_ret (rb_results _ _ gr _ _ _ rfl rfl rfl HFIN.out rfl) rfl ?_
        exact HR1.out _ hne HP.out
  · by_cases h2 : E0.data.toList = heardL
    · have HOK : Hid (((nextP b.data.toList S 10).1 == onesL || (nextP b.data.toList S 10).1 == heardL) = true) := Hid.mk (by rw [← HE.out, h2]; decide)
      have eE : E0 = ⟨#[49, 48, 49, 49, 49, 49, 49, 49, 49, 49]⟩ := ba_eq h2
      subst eE
      clear h1 h2
      have A2 := Hid.mk (must3_any gb gh gf ga b (nextP b.data.toList S 10).2 true 4 w1 H1.out.st)
      go_wp2_with fail
      refine A2.out.mono ?_
      rintro e w2 ⟨rfl, s2, t2⟩
      have e2 : mustM (nextP b.data.toList S 10).2 true 4 = (endJ b.data.toList S) := by unfold endJ; rw [HOK.out]
      rw [e2] at s2
      have H2 := Hid.mk (H1.out.call s2 t2)
      clear s2 t2 A2 H1 e2
      by_cases hne : (endJ b.data.toList S).fl = 0
      · obtain ⟨da, dc, rfl, hby, hblk⟩ := isBytes_ownB H2.out.D
        have hz := H2.out.R
        have ks0 := heap_setCell_same w2 gr 0 _ _ (.int .i64 id) hz
        simp only [List.setIfInBounds_toArray, List.set_cons_zero] at ks0
        have ks1 := heap_setCell_same (w2.setCell ⟨gr, 0, none⟩ (.int .i64 id)) gr 1 _ _ (.bool lo) ks0
        simp only [List.setIfInBounds_toArray, List.set_cons_zero, List.set_cons_succ] at ks1
        have ks2 := heap_setCell_same ((w2.setCell ⟨gr, 0, none⟩ (.int .i64 id)).setCell ⟨gr, 1, none⟩ (.bool lo)) gr 2 _ _ (.bool fa) ks1
        simp only [List.setIfInBounds_toArray, List.set_cons_zero, List.set_cons_succ] at ks2
        have ks3 := heap_setCell_same (((w2.setCell ⟨gr, 0, none⟩ (.int .i64 id)).setCell ⟨gr, 1, none⟩ (.bool lo)).setCell ⟨gr, 2, none⟩ (.bool fa)) gr 3 _ _ (.bool re) ks2
        simp only [List.setIfInBounds_toArray, List.set_cons_zero, List.set_cons_succ] at ks3
        have ks4 := heap_setCell_same ((((w2.setCell ⟨gr, 0, none⟩ (.int .i64 id)).setCell ⟨gr, 1, none⟩ (.bool lo)).setCell ⟨gr, 2, none⟩ (.bool fa)).setCell ⟨gr, 3, none⟩ (.bool re)) gr 4 _ _ (.int .i64 sz) ks3
        simp only [List.setIfInBounds_toArray, List.set_cons_zero, List.set_cons_succ] at ks4
        have ks5 := heap_setCell_same (((((w2.setCell ⟨gr, 0, none⟩ (.int .i64 id)).setCell ⟨gr, 1, none⟩ (.bool lo)).setCell ⟨gr, 2, none⟩ (.bool fa)).setCell ⟨gr, 3, none⟩ (.bool re)).setCell ⟨gr, 4, none⟩ (.int .i64 sz)) gr 5 _ _ (.slice da dt.length dc) ks4
        simp only [List.setIfInBounds_toArray, List.set_cons_zero, List.set_cons_succ] at ks5
        have hT1 : Tch [gr] w2 ((((((w2.setCell ⟨gr, 0, none⟩ (.int .i64 id)).setCell ⟨gr, 1, none⟩ (.bool lo)).setCell ⟨gr, 2, none⟩ (.bool fa)).setCell ⟨gr, 3, none⟩ (.bool re)).setCell ⟨gr, 4, none⟩ (.int .i64 sz)).setCell ⟨gr, 5, none⟩ (.slice da dt.length dc)) := ((((((((Tch.refl [gr] w2).setK (by simp) _ _).setK (by simp) _ _).setK (by simp) _ _).setK (by simp) _ _).setK (by simp) _ _).setK (by simp) _ _))
        have HP := Hid.mk (Tch.below H2.out.bel hT1 (fun g hg => by have := H2.out.ge gr (by simp); simp at hg; omega) H2.out.hB).drew
        have HFIN := Hid.mk (row_drewB ks5)
        have b0 := cell_of_row w2 gr 0 _ _ _ hz
        simp at b0
        have f0 := frozen_of_row w2 gr 0 _ _ hz
        have b1 := cell_of_row w2 gr 1 _ _ _ hz
        simp at b1
        have f1 := frozen_of_row w2 gr 1 _ _ hz
        have b2 := cell_of_row w2 gr 2 _ _ _ hz
        simp at b2
        have f2 := frozen_of_row w2 gr 2 _ _ hz
        have b3 := cell_of_row w2 gr 3 _ _ _ hz
        simp at b3
        have f3 := frozen_of_row w2 gr 3 _ _ hz
        have b4 := cell_of_row w2 gr 4 _ _ _ hz
        simp at b4
        have f4 := frozen_of_row w2 gr 4 _ _ hz
        have b5 := cell_of_row w2 gr 5 _ _ _ hz
        simp at b5
        have f5 := frozen_of_row w2 gr 5 _ _ hz
        have HBY := Hid.mk (isBytes_tchB hby hT1 (fun x hx => by have := hblk x hx; have := H2.out.ge gr (by simp); simp; omega))
        have hf := H2.out.st.f.cell
        rw [hne] at hf
        have ha := H2.out.st.a.cell
        have pA := (H2.out.st.a.other (k := gr) (.int .i64 id) (by have nd := H2.out.nd; simp at nd; omega)).cell
        obtain ⟨c0, c1, c2, c3, c4, c5⟩ := H2.out.cells
        clear hT1 ks0 ks1 ks2 ks3 ks4 ks5 hz hby hblk
        go_wp2_with fail
        go_region
        all_goals focus
          go_wp2_with fail
          refine bodyPost_ret (rb_results _ _ gr _ _ _ rfl rfl rfl HFIN.out rfl) rfl ?_
          exact HR2.out _ _ _ hne HBY.out HP.out
      · have hz := H2.out.R
        have ks0 := heap_setCell_same w2 gr 0 _ _ (.int .i64 0) hz
        simp only [List.setIfInBounds_toArray, List.set_cons_zero] at ks0
        have ks1 := heap_setCell_same (w2.setCell ⟨gr, 0, none⟩ (.int .i64 0)) gr 1 _ _ (.bool false) ks0
        simp only [List.setIfInBounds_toArray, List.set_cons_zero, List.set_cons_succ] at ks1
        have ks2 := heap_setCell_same ((w2.setCell ⟨gr, 0, none⟩ (.int .i64 0)).setCell ⟨gr, 1, none⟩ (.bool false)) gr 2 _ _ (.bool false) ks1
        simp only [List.setIfInBounds_toArray, List.set_cons_zero, List.set_cons_succ] at ks2
        have ks3 := heap_setCell_same (((w2.setCell ⟨gr, 0, none⟩ (.int .i64 0)).setCell ⟨gr, 1, none⟩ (.bool false)).setCell ⟨gr, 2, none⟩ (.bool false)) gr 3 _ _ (.bool false) ks2
        simp only [List.setIfInBounds_toArray, List.set_cons_zero, List.set_cons_succ] at ks3
        have ks4 := heap_setCell_same ((((w2.setCell ⟨gr, 0, none⟩ (.int .i64 0)).setCell ⟨gr, 1, none⟩ (.bool false)).setCell ⟨gr, 2, none⟩ (.bool false)).setCell ⟨gr, 3, none⟩ (.bool false)) gr 4 _ _ (.int .i64 0) ks3
        simp only [List.setIfInBounds_toArray, List.set_cons_zero, List.set_cons_succ] at ks4
        have ks5 := heap_setCell_same (((((w2.setCell ⟨gr, 0, none⟩ (.int .i64 0)).setCell ⟨gr, 1, none⟩ (.bool false)).setCell ⟨gr, 2, none⟩ (.bool false)).setCell ⟨gr, 3, none⟩ (.bool false)).setCell ⟨gr, 4, none⟩ (.int .i64 0)) gr 5 _ _ (.slice none 0 0) ks4
        simp only [List.setIfInBounds_toArray, List.set_cons_zero, List.set_cons_succ] at ks5
        have hT1 : Tch [gr] w2 ((((((w2.setCell ⟨gr, 0, none⟩ (.int .i64 0)).setCell ⟨gr, 1, none⟩ (.bool false)).setCell ⟨gr, 2, none⟩ (.bool false)).setCell ⟨gr, 3, none⟩ (.bool false)).setCell ⟨gr, 4, none⟩ (.int .i64 0)).setCell ⟨gr, 5, none⟩ (.slice none 0 0)) := ((((((((Tch.refl [gr] w2).setK (by simp) _ _).setK (by simp) _ _).setK (by simp) _ _).setK (by simp) _ _).setK (by simp) _ _).setK (by simp) _ _))
        have HP := Hid.mk (Tch.below H2.out.bel hT1 (fun g hg => by have := H2.out.ge gr (by simp); simp at hg; omega) H2.out.hB).drew
        have HFIN := Hid.mk (row_drewB ks5)
        have b0 := cell_of_row w2 gr 0 _ _ _ hz
        simp at b0
        have f0 := frozen_of_row w2 gr 0 _ _ hz
        have b1 := cell_of_row w2 gr 1 _ _ _ hz
        simp at b1
        have f1 := frozen_of_row w2 gr 1 _ _ hz
        have b2 := cell_of_row w2 gr 2 _ _ _ hz
        simp at b2
        have f2 := frozen_of_row w2 gr 2 _ _ hz
        have b3 := cell_of_row w2 gr 3 _ _ _ hz
        simp at b3
        have f3 := frozen_of_row w2 gr 3 _ _ hz
        have b4 := cell_of_row w2 gr 4 _ _ _ hz
        simp at b4
        have f4 := frozen_of_row w2 gr 4 _ _ hz
        have b5 := cell_of_row w2 gr 5 _ _ _ hz
        simp at b5
        have f5 := frozen_of_row w2 gr 5 _ _ hz
        have hf := H2.out.st.f.cell
        have hne' : ((endJ b.data.toList S).fl != 0) = true := by simpa using hne
        have pF := (H2.out.st.f.other (k := gr) (.int .i64 0) (by have nd := H2.out.nd; simp at nd; omega)).cell
        clear hT1 ks0 ks1 ks2 ks3 ks4 ks5 hz
        go_wp2_with fail
        go_region
        all_goals focus
          go_wp2_with fail
          refine bodyPost_ret (rb_results _ _ gr _ _ _ rfl rfl rfl HFIN.out rfl) rfl ?_
          exact HR1.out _ hne HP.out
    · have HOK : Hid (((nextP b.data.toList S 10).1 == onesL || (nextP b.data.toList S 10).1 == heardL) = false) := Hid.mk (by rw [← HE.out]; simp [h1, h2])
      have q1 : (E0.toList == [49, 49, 49, 49, 49, 49, 49, 49, 49, 49]) = false := by rw [ByteArray.toList_eq]; simpa [onesL] using h1
      have q2 : (E0.toList == [49, 48, 49, 49, 49, 49, 49, 49, 49, 49]) = false := by rw [ByteArray.toList_eq]; simpa [heardL] using h2
      clear h1 h2
      have A2 := Hid.mk (must3_any gb gh gf ga b (nextP b.data.toList S 10).2 false 4 w1 H1.out.st)
      go_wp2_with fail
      refine A2.out.mono ?_
      rintro e w2 ⟨rfl, s2, t2⟩
      have e2 : mustM (nextP b.data.toList S 10).2 false 4 = (endJ b.data.toList S) := by unfold endJ; rw [HOK.out]
      rw [e2] at s2
      have H2 := Hid.mk (H1.out.call s2 t2)
      clear s2 t2 A2 H1 e2
      by_cases hne : (endJ b.data.toList S).fl = 0
      · obtain ⟨da, dc, rfl, hby, hblk⟩ := isBytes_ownB H2.out.D
        have hz := H2.out.R
        have ks0 := heap_setCell_same w2 gr 0 _ _ (.int .i64 id) hz
        simp only [List.setIfInBounds_toArray, List.set_cons_zero] at ks0
        have ks1 := heap_setCell_same (w2.setCell ⟨gr, 0, none⟩ (.int .i64 id)) gr 1 _ _ (.bool lo) ks0
        simp only [List.setIfInBounds_toArray, List.set_cons_zero, List.set_cons_succ] at ks1
        have ks2 := heap_setCell_same ((w2.setCell ⟨gr, 0, none⟩ (.int .i64 id)).setCell ⟨gr, 1, none⟩ (.bool lo)) gr 2 _ _ (.bool fa) ks1
        simp only [List.setIfInBounds_toArray, List.set_cons_zero, List.set_cons_succ] at ks2
        have ks3 := heap_setCell_same (((w2.setCell ⟨gr, 0, none⟩ (.int .i64 id)).setCell ⟨gr, 1, none⟩ (.bool lo)).setCell ⟨gr, 2, none⟩ (.bool fa)) gr 3 _ _ (.bool re) ks2
        simp only [List.setIfInBounds_toArray, List.set_cons_zero, List.set_cons_succ] at ks3
        have ks4 := heap_setCell_same ((((w2.setCell ⟨gr, 0, none⟩ (.int .i64 id)).setCell ⟨gr, 1, none⟩ (.bool lo)).setCell ⟨gr, 2, none⟩ (.bool fa)).setCell ⟨gr, 3, none⟩ (.bool re)) gr 4 _ _ (.int .i64 sz) ks3
        simp only [List.setIfInBounds_toArray, List.set_cons_zero, List.set_cons_succ] at ks4
        have ks5 := heap_setCell_same (((((w2.setCell ⟨gr, 0, none⟩ (.int .i64 id)).setCell ⟨gr, 1, none⟩ (.bool lo)).setCell ⟨gr, 2, none⟩ (.bool fa)).setCell ⟨gr, 3, none⟩ (.bool re)).setCell ⟨gr, 4, none⟩ (.int .i64 sz)) gr 5 _ _ (.slice da dt.length dc) ks4
        simp only [List.setIfInBounds_toArray, List.set_cons_zero, List.set_cons_succ] at ks5
        have hT1 : Tch [gr] w2 ((((((w2.setCell ⟨gr, 0, none⟩ (.int .i64 id)).setCell ⟨gr, 1, none⟩ (.bool lo)).setCell ⟨gr, 2, none⟩ (.bool fa)).setCell ⟨gr, 3, none⟩ (.bool re)).setCell ⟨gr, 4, none⟩ (.int .i64 sz)).setCell ⟨gr, 5, none⟩ (.slice da dt.length dc)) := ((((((((Tch.refl [gr] w2).setK (by simp) _ _).setK (by simp) _ _).setK (by simp) _ _).setK (by simp) _ _).setK (by simp) _ _).setK (by simp) _ _))
        have HP := Hid.mk (Tch.below H2.out.bel hT1 (fun g hg => by have := H2.out.ge gr (by simp); simp at hg; omega) H2.out.hB).drew
        have HFIN := Hid.mk (row_drewB ks5)
        have b0 := cell_of_row w2 gr 0 _ _ _ hz
        simp at b0
        have f0 := frozen_of_row w2 gr 0 _ _ hz
        have b1 := cell_of_row w2 gr 1 _ _ _ hz
        simp at b1
        have f1 := frozen_of_row w2 gr 1 _ _ hz
        have b2 := cell_of_row w2 gr 2 _ _ _ hz
        simp at b2
        have f2 := frozen_of_row w2 gr 2 _ _ hz
        have b3 := cell_of_row w2 gr 3 _ _ _ hz
        simp at b3
        have f3 := frozen_of_row w2 gr 3 _ _ hz
        have b4 := cell_of_row w2 gr 4 _ _ _ hz
        simp at b4
        have f4 := frozen_of_row w2 gr 4 _ _ hz
        have b5 := cell_of_row w2 gr 5 _ _ _ hz
        simp at b5
        have f5 := frozen_of_row w2 gr 5 _ _ hz
        have HBY := Hid.mk (isBytes_tchB hby hT1 (fun x hx => by have := hblk x hx; have := H2.out.ge gr (by simp); simp; omega))
        have hf := H2.out.st.f.cell
        rw [hne] at hf
        have ha := H2.out.st.a.cell
        have pA := (H2.out.st.a.other (k := gr) (.int .i64 id) (by have nd := H2.out.nd; simp at nd; omega)).cell
        obtain ⟨c0, c1, c2, c3, c4, c5⟩ := H2.out.cells
        clear hT1 ks0 ks1 ks2 ks3 ks4 ks5 hz hby hblk
        go_wp2_with fail
        go_region
        all_goals focus
          go_wp2_with fail
          refine bodyPost_ret (rb_results _ _ gr _ _ _ rfl rfl rfl HFIN.out rfl) rfl ?_
          exact HR2.out _ _ _ hne HBY.out HP.out
      · have hz := H2.out.R
        have ks0 := heap_setCell_same w2 gr 0 _ _ (.int .i64 0) hz
        simp only [List.setIfInBounds_toArray, List.set_cons_zero] at ks0
        have ks1 := heap_setCell_same (w2.setCell ⟨gr, 0, none⟩ (.int .i64 0)) gr 1 _ _ (.bool false) ks0
        simp only [List.setIfInBounds_toArray, List.set_cons_zero, List.set_cons_succ] at ks1
        have ks2 := heap_setCell_same ((w2.setCell ⟨gr, 0, none⟩ (.int .i64 0)).setCell ⟨gr, 1, none⟩ (.bool false)) gr 2 _ _ (.bool false) ks1
        simp only [List.setIfInBounds_toArray, List.set_cons_zero, List.set_cons_succ] at ks2
        have ks3 := heap_setCell_same (((w2.setCell ⟨gr, 0, none⟩ (.int .i64 0)).setCell ⟨gr, 1, none⟩ (.bool false)).setCell ⟨gr, 2, none⟩ (.bool false)) gr 3 _ _ (.bool false) ks2
        simp only [List.setIfInBounds_toArray, List.set_cons_zero, List.set_cons_succ] at ks3
        have ks4 := heap_setCell_same ((((w2.setCell ⟨gr, 0, none⟩ (.int .i64 0)).setCell ⟨gr, 1, none⟩ (.bool false)).setCell ⟨gr, 2, none⟩ (.bool false)).setCell ⟨gr, 3, none⟩ (.bool false)) gr 4 _ _ (.int .i64 0) ks3
        simp only [List.setIfInBounds_toArray, List.set_cons_zero, List.set_cons_succ] at ks4
        have ks5 := heap_setCell_same (((((w2.setCell ⟨gr, 0, none⟩ (.int .i64 0)).setCell ⟨gr, 1, none⟩ (.bool false)).setCell ⟨gr, 2, none⟩ (.bool false)).setCell ⟨gr, 3, none⟩ (.bool false)).setCell ⟨gr, 4, none⟩ (.int .i64 0)) gr 5 _ _ (.slice none 0 0) ks4
        simp only [List.setIfInBounds_toArray, List.set_cons_zero, List.set_cons_succ] at ks5
        have hT1 : Tch [gr] w2 ((((((w2.setCell ⟨gr, 0, none⟩ (.int .i64 0)).setCell ⟨gr, 1, none⟩ (.bool false)).setCell ⟨gr, 2, none⟩ (.bool false)).setCell ⟨gr, 3, none⟩ (.bool false)).setCell ⟨gr, 4, none⟩ (.int .i64 0)).setCell ⟨gr, 5, none⟩ (.slice none 0 0)) := ((((((((Tch.refl [gr] w2).setK (by simp) _ _).setK (by simp) _ _).setK (by simp) _ _).setK (by simp) _ _).setK (by simp) _ _).setK (by simp) _ _))
        have HP := Hid.mk (Tch.below H2.out.bel hT1 (fun g hg => by have := H2.out.ge gr (by simp); simp at hg; omega) H2.out.hB).drew
        have HFIN := Hid.mk (row_drewB ks5)
        have b0 := cell_of_row w2 gr 0 _ _ _ hz
        simp at b0
        have f0 := frozen_of_row w2 gr 0 _ _ hz
        have b1 := cell_of_row w2 gr 1 _ _ _ hz
        simp at b1
        have f1 := frozen_of_row w2 gr 1 _ _ hz
        have b2 := cell_of_row w2 gr 2 _ _ _ hz
        simp at b2
        have f2 := frozen_of_row w2 gr 2 _ _ hz
        have b3 := cell_of_row w2 gr 3 _ _ _ hz
        simp at b3
        have f3 := frozen_of_row w2 gr 3 _ _ hz
        have b4 := cell_of_row w2 gr 4 _ _ _ hz
        simp at b4
        have f4 := frozen_of_row w2 gr 4 _ _ hz
        have b5 := cell_of_row w2 gr 5 _ _ _ hz
        simp at b5
        have f5 := frozen_of_row w2 gr 5 _ _ hz
        have hf := H2.out.st.f.cell
        have hne' : ((endJ b.data.toList S).fl != 0) = true := by simpa using hne
        have pF := (H2.out.st.f.other (k := gr) (.int .i64 0) (by have nd := H2.out.nd; simp at nd; omega)).cell
        clear hT1 ks0 ks1 ks2 ks3 ks4 ks5 hz
        go_wp2_with fail
        go_region
        all_goals focus
          go_wp2_with fail
          refine bodyPost_ret (rb_results _ _ gr _ _ _ rfl rfl rfl HFIN.out rfl) rfl ?_
          exact HR1.out _ hne HP.out
end Bw
end Go.Proofs.YtemohjamcdkcmaaGreatDoor
namespace Go.Proofs.YtemohjamcdkcmaaGreatDoor
open Go.ChangeShapes Go.WideShapes Go.ChangeAt Go.RowKit
namespace Bw
open Bm Cm
set_option maxHeartbeats 8000000 in
set_option maxRecDepth 100000 in
theorem readBits_any (b : ByteArray) (w : World) (hD : w.cell? ⟨5, 1, none⟩ = some (.int .u8 1)) (h1000 : b.size ≤ 1000) (hb : rowB b.data.toList = true) :
    Calls Tryz.prog 20 #[.string b] w fun e w' =>
      ((jdE b.data.toList).fl ≠ 0 → e = .returned (.tuple #[.agg #[.int .i64 0, .bool false, .bool false, .bool false, .int .i64 0, .slice none 0 0], .int .i64 0, .int .i64 (jdE b.data.toList).fl])) ∧
      ((jdE b.data.toList).fl = 0 → ∃ a len cap, e = .returned (.tuple #[.agg #[.int .i64 (jdA b.data.toList).id, .bool (jdA b.data.toList).lo, .bool (jdB b.data.toList).2, .bool (jdA b.data.toList).re, .int .i64 (jdD b.data.toList).sz, .slice a len cap], .int .i64 (jdE b.data.toList).u, .int .i64 0]) ∧ IsBytes w' a len cap (jdD b.data.toList).dt) ∧ Below w.heap.size w w' := by
  have hDb : ∀ W, Below w.heap.size w W → W.cell? ⟨5, 1, none⟩ = some (.int .u8 1) := fun W hW => cell_kept hW hD
  have hbl : b.data.toList.length = b.size := by simp
  have n4 := num4_le b.data.toList hb (jdB b.data.toList).1
  have iA := nameJ_inv b.data.toList hb
  have iB := formJ_inv b.data.toList hb
  have iC := dj2_inv b.data.toList hb (jdB b.data.toList).2
  have iD := dataJ_inv b.data.toList hb
  have iS := jdS_inv b.data.toList hb
  have hU := jdU b.data.toList hb
  refine calls_of_wp Tryz.func20 rfl ?_
  simp only [Tryz.ntmps20, List.size_toArray, List.length_cons, List.length_nil, Nat.reduceAdd, Nat.reduceSub, Array.replicate_succ, Array.replicate_zero, List.push_toArray, List.append_toArray, List.nil_append, List.cons_append]
  refine rb0 (dropSeq 8 rbBody) _ b w (fun _ _ _ _ _ _ _ _ _ _ _ _ _ _ _ _ _ _ _ _ _ _ _ _ _ _ _ _ _ _ _ _ _ _ _ _ _ _ _ _ _ _ _ _ _ _ _ _ _ _ _ _ _ _ _ _ _ _ _ _ _ _ _ _ _ _ _ _ _ _ _ _ _ _ _ _ _ _ _ _ _ _ _ _ _ _ _ _ _ _ _ _ _ _ _ _ _ _ _ _ _ _ _ _ _ _ _ _ _ _ _ _ _ _ _ _ _ _ _ _ _ _ _ _ _ _ _ _ _ _ _ _ _ _ _ _ _ _ _ _ _ _ _ _ _ _ _ _ _ _ _ _ _ _ _ _ _ _ _ _ _ _ _ _ _ _ _ _ _ _ _ _ _ _ _ _ _ _ _ _ _ _ _ _ _ _ _ _ _ _ _ _ _ _ _ _ _ _ _ _ _ _ _ H1 => ?_) _ _ _ _ _ _ _ _ _ _ _ _ _ _ _ _ _ _ _ _ _ _ _ _ _ _ _ _ _ _ _ _ _ _ _ _ _ _ _ _ _ _ _ _ _ _ _ _ _ _ _ _ _ _ _ _ _ _ _ _ _ _ _ _ _ _ _ _ _ _ _ _ _ _ _ _ _ _ _ _ _ _ _ _ _ _ _ _ _ _ _ _ _ _ _ _ _ _ _ _ _ _ _ _ _ _ _ _ _ _ _ _ _ _ _ _ _ _ _ _ _ _ _ _ _ _ _ _ _ _ _ _ _ _ _ _ _ _ _ _ _ _ _ _ _ _ _ _ _ _ _ _ _ _ _ _ _ _ _ _ _ _ _ _ _ _ _ _ _ _ _ _ _ _ _ _ _ _ _ _ _ _ _ _ _ _ _ _ _ _ _ _ _ _ _ _ _ _ _ _ _ _ _ _ _ _ _ _ _ _ _
  refine rb1 (dropSeq 12 rbBody) _ _ _ _ _ _ _ _ _ _ _ b _ h1000 hb H1 (fun _ _ _ _ _ _ _ _ _ _ _ _ _ _ _ _ _ _ _ _ _ _ _ _ _ _ _ _ _ _ _ _ _ _ _ _ _ _ _ _ _ _ _ _ _ _ _ _ _ _ _ _ _ _ _ _ _ _ _ _ _ _ _ _ _ _ _ _ _ _ _ _ _ _ _ _ _ _ _ _ _ _ _ _ _ _ _ _ _ _ _ _ _ _ _ _ _ _ _ _ _ _ _ _ _ _ _ _ _ _ _ _ _ _ _ _ _ _ _ _ _ _ _ _ _ _ _ _ _ _ _ _ _ _ _ _ _ _ _ _ _ _ _ _ _ _ _ _ _ _ _ _ _ _ _ _ _ _ _ _ _ _ _ _ _ _ _ _ _ _ _ _ _ _ _ _ _ _ _ _ _ _ _ _ _ _ _ _ _ _ _ _ _ _ _ _ _ _ _ _ _ _ _ w2 H2 => ?_) _ _ _ _ _ _ _ _ _ _ _ _ _ _ _ _ _ _ _ _ _ _ _ _ _ _ _ _ _ _ _ _ _ _ _ _ _ _ _ _ _ _ _ _ _ _ _ _ _ _ _ _ _ _ _ _ _ _ _ _ _ _ _ _ _ _ _ _ _ _ _ _ _ _ _ _ _ _ _ _ _ _ _ _ _ _ _ _ _ _ _ _ _ _ _ _ _ _ _ _ _ _ _ _ _ _ _ _ _ _ _ _ _ _ _ _ _ _ _ _ _ _ _ _ _ _ _ _ _ _ _ _ _ _ _ _ _ _ _ _ _ _ _ _ _ _ _ _ _ _ _ _ _ _ _ _ _ _ _ _ _ _ _ _ _ _ _ _ _ _ _ _ _ _ _ _ _ _ _ _ _ _ _ _ _ _ _ _ _ _ _ _ _ _ _ _ _ _ _ _ _ _ _
  refine rb2 (dropSeq 13 rbBody) _ _ _ _ _ _ _ _ _ _ _ b _ _ _ _ _ h1000 hb iA H2 (fun _ _ _ _ _ _ _ _ _ _ _ _ _ _ _ _ _ _ _ _ _ _ _ _ _ _ _ _ _ _ _ _ _ _ _ _ _ _ _ _ _ _ _ _ _ _ _ _ _ _ _ _ _ _ _ _ _ _ _ _ _ _ _ _ _ _ _ _ _ _ _ _ _ _ _ _ _ _ _ _ _ _ _ _ _ _ _ _ _ _ _ _ _ _ _ _ _ _ _ _ _ _ _ _ _ _ _ _ _ _ _ _ _ _ _ _ _ _ _ _ _ _ _ _ _ _ _ _ _ _ _ _ _ _ _ _ _ _ _ _ _ _ _ _ _ _ _ _ _ _ _ _ _ _ _ _ _ _ _ _ _ _ _ _ _ _ _ _ _ _ _ _ _ _ _ _ _ _ _ _ _ _ _ _ _ _ _ _ _ _ _ _ _ _ _ _ _ _ _ _ _ _ _ w3 H3 => ?_) _ _ _ _ _ _ _ _ _ _ _ _ _ _ _ _ _ _ _ _ _ _ _ _ _ _ _ _ _ _ _ _ _ _ _ _ _ _ _ _ _ _ _ _ _ _ _ _ _ _ _ _ _ _ _ _ _ _ _ _ _ _ _ _ _ _ _ _ _ _ _ _ _ _ _ _ _ _ _ _ _ _ _ _ _ _ _ _ _ _ _ _ _ _ _ _ _ _ _ _ _ _ _ _ _ _ _ _ _ _ _ _ _ _ _ _ _ _ _ _ _ _ _ _ _ _ _ _ _ _ _ _ _ _ _ _ _ _ _ _ _ _ _ _ _ _ _ _ _ _ _ _ _ _ _ _ _ _ _ _ _ _ _ _ _ _ _ _ _ _ _ _ _ _ _ _ _ _ _ _ _ _ _ _ _ _ _ _ _ _ _ _ _ _ _ _ _ _ _ _ _ _ _
  refine rb3 (dropSeq 15 rbBody) _ _ _ _ _ _ _ _ _ _ _ b _ _ _ _ _ _ h1000 hb iB H3 (fun _ _ _ _ _ _ _ _ _ _ _ _ _ _ _ _ _ _ _ _ _ _ _ _ _ _ _ _ _ _ _ _ _ _ _ _ _ _ _ _ _ _ _ _ _ _ _ _ _ _ _ _ _ _ _ _ _ _ _ _ _ _ _ _ _ _ _ _ _ _ _ _ _ _ _ _ _ _ _ _ _ _ _ _ _ _ _ _ _ _ _ _ _ _ _ _ _ _ _ _ _ _ _ _ _ _ _ _ _ _ _ _ _ _ _ _ _ _ _ _ _ _ _ _ _ _ _ _ _ _ _ _ _ _ _ _ _ _ _ _ _ _ _ _ _ _ _ _ _ _ _ _ _ _ _ _ _ _ _ _ _ _ _ _ _ _ _ _ _ _ _ _ _ _ _ _ _ _ _ _ _ _ _ _ _ _ _ _ _ _ _ _ _ _ _ _ _ _ _ _ _ _ w4 H4 => ?_) _ _ _ _ _ _ _ _ _ _ _ _ _ _ _ _ _ _ _ _ _ _ _ _ _ _ _ _ _ _ _ _ _ _ _ _ _ _ _ _ _ _ _ _ _ _ _ _ _ _ _ _ _ _ _ _ _ _ _ _ _ _ _ _ _ _ _ _ _ _ _ _ _ _ _ _ _ _ _ _ _ _ _ _ _ _ _ _ _ _ _ _ _ _ _ _ _ _ _ _ _ _ _ _ _ _ _ _ _ _ _ _ _ _ _ _ _ _ _ _ _ _ _ _ _ _ _ _ _ _ _ _ _ _ _ _ _ _ _ _ _ _ _ _ _ _ _ _ _ _ _ _ _ _ _ _ _ _ _ _ _ _ _ _ _ _ _ _ _ _ _ _ _ _ _ _ _ _ _ _ _ _ _ _ _ _ _ _ _ _ _ _ _ _ _ _ _ _ _ _ _ _ _
  refine rb3b (dropSeq 16 rbBody) _ _ _ _ _ _ _ _ _ _ _ b _ _ _ _ _ _ _ h1000 hb iC n4 H4 (fun _ _ _ _ _ _ _ _ _ _ _ _ _ _ _ _ _ _ _ _ _ _ _ _ _ _ _ _ _ _ _ _ _ _ _ _ _ _ _ _ _ _ _ _ _ _ _ _ _ _ _ _ _ _ _ _ _ _ _ _ _ _ _ _ _ _ _ _ _ _ _ _ _ _ _ _ _ _ _ _ _ _ _ _ _ _ _ _ _ _ _ _ _ _ _ _ _ _ _ _ _ _ _ _ _ _ _ _ _ _ _ _ _ _ _ _ _ _ _ _ _ _ _ _ _ _ _ _ _ _ _ _ _ _ _ _ _ _ _ _ _ _ _ _ _ _ _ _ _ _ _ _ _ _ _ _ _ _ _ _ _ _ _ _ _ _ _ _ _ _ _ _ _ _ _ _ _ _ _ _ _ _ _ _ _ _ _ _ _ _ _ _ _ _ _ _ _ _ _ _ _ _ _ w5 H5 => ?_) _ _ _ _ _ _ _ _ _ _ _ _ _ _ _ _ _ _ _ _ _ _ _ _ _ _ _ _ _ _ _ _ _ _ _ _ _ _ _ _ _ _ _ _ _ _ _ _ _ _ _ _ _ _ _ _ _ _ _ _ _ _ _ _ _ _ _ _ _ _ _ _ _ _ _ _ _ _ _ _ _ _ _ _ _ _ _ _ _ _ _ _ _ _ _ _ _ _ _ _ _ _ _ _ _ _ _ _ _ _ _ _ _ _ _ _ _ _ _ _ _ _ _ _ _ _ _ _ _ _ _ _ _ _ _ _ _ _ _ _ _ _ _ _ _ _ _ _ _ _ _ _ _ _ _ _ _ _ _ _ _ _ _ _ _ _ _ _ _ _ _ _ _ _ _ _ _ _ _ _ _ _ _ _ _ _ _ _ _ _ _ _ _ _ _ _ _ _ _ _ _ _
  obtain ⟨v, H5⟩ := H5
  have e1 : (if (jdA b.data.toList).re = true then dj2 b.data.toList (jdB b.data.toList).1 (jdB b.data.toList).2 else (dlJ b.data.toList (dj2 b.data.toList (jdB b.data.toList).1 (jdB b.data.toList).2) (sizesL.getD (numJ b.data.toList (jdB b.data.toList).1 4).1 0)).1) = (jdD b.data.toList).S := by unfold jdD dataJ; split <;> rfl
  have e2 : (if (jdA b.data.toList).re = true then ((numJ b.data.toList (jdB b.data.toList).1 4).1 : Int) else 0) = ((jdD b.data.toList).sz : Int) := by unfold jdD dataJ; split <;> rfl
  have e3 : (if (jdA b.data.toList).re = true then [] else (dlJ b.data.toList (dj2 b.data.toList (jdB b.data.toList).1 (jdB b.data.toList).2) (sizesL.getD (numJ b.data.toList (jdB b.data.toList).1 4).1 0)).2) = (jdD b.data.toList).dt := by unfold jdD dataJ; split <;> rfl
  have eA : nameJ b.data.toList ⟨0, 0, []⟩ = jdA b.data.toList := rfl
  rw [eA] at H5
  have eB : formJ b.data.toList (jdA b.data.toList).S (jdA b.data.toList).lo (jdA b.data.toList).re = jdB b.data.toList := rfl
  rw [eB] at H5
  rw [e1, e2, e3] at H5
  refine rb4 (dropSeq 18 rbBody) _ _ _ _ _ _ _ _ _ _ _ b _ _ _ _ _ _ _ _ _ h1000 hb iD hDb H5 (fun _ _ _ _ _ _ _ _ _ _ _ _ _ _ _ _ _ _ _ _ _ _ _ _ _ _ _ _ _ _ _ _ _ _ _ _ _ _ _ _ _ _ _ _ _ _ _ _ _ _ _ _ _ _ _ _ _ _ _ _ _ _ _ _ _ _ _ _ _ _ _ _ _ _ _ _ _ _ _ _ _ _ _ _ _ _ _ _ _ _ _ _ _ _ _ _ _ _ _ _ _ _ _ _ _ _ _ _ _ _ _ _ _ _ _ _ _ _ _ _ _ _ _ _ _ _ _ _ _ _ _ _ _ _ _ _ _ _ _ _ _ _ _ _ _ _ _ _ _ _ _ _ _ _ _ _ _ _ _ _ _ _ _ _ _ _ _ _ _ _ _ _ _ _ _ _ _ _ _ _ _ _ _ _ _ _ _ _ _ _ _ _ _ _ _ _ _ _ _ _ _ _ w6 H6 => ?_) _ _ _ _ _ _ _ _ _ _ _ _ _ _ _ _ _ _ _ _ _ _ _ _ _ _ _ _ _ _ _ _ _ _ _ _ _ _ _ _ _ _ _ _ _ _ _ _ _ _ _ _ _ _ _ _ _ _ _ _ _ _ _ _ _ _ _ _ _ _ _ _ _ _ _ _ _ _ _ _ _ _ _ _ _ _ _ _ _ _ _ _ _ _ _ _ _ _ _ _ _ _ _ _ _ _ _ _ _ _ _ _ _ _ _ _ _ _ _ _ _ _ _ _ _ _ _ _ _ _ _ _ _ _ _ _ _ _ _ _ _ _ _ _ _ _ _ _ _ _ _ _ _ _ _ _ _ _ _ _ _ _ _ _ _ _ _ _ _ _ _ _ _ _ _ _ _ _ _ _ _ _ _ _ _ _ _ _ _ _ _ _ _ _ _ _ _ _ _ _ _ _ _
  have e6 : (if (jdD b.data.toList).S.fl = 0 then (if (jdB b.data.toList).2 then (jdD b.data.toList).S else sumJ b.data.toList (jdD b.data.toList).S) else (jdD b.data.toList).S) = jd4 b.data.toList := rfl
  rw [e6] at H6
  refine rb5 (dropSeq 19 rbBody) _ _ _ _ _ _ _ _ _ _ _ b _ _ _ _ _ _ _ _ _ h1000 hb ?_ hDb H6 (fun _ _ _ _ _ _ _ _ _ _ _ _ _ _ _ _ _ _ _ _ _ _ _ _ _ _ _ _ _ _ _ _ _ _ _ _ _ _ _ _ _ _ _ _ _ _ _ _ _ _ _ _ _ _ _ _ _ _ _ _ _ _ _ _ _ _ _ _ _ _ _ _ _ _ _ _ _ _ _ _ _ _ _ _ _ _ _ _ _ _ _ _ _ _ _ _ _ _ _ _ _ _ _ _ _ _ _ _ _ _ _ _ _ _ _ _ _ _ _ _ _ _ _ _ _ _ _ _ _ _ _ _ _ _ _ _ _ _ _ _ _ _ _ _ _ _ _ _ _ _ _ _ _ _ _ _ _ _ _ _ _ _ _ _ _ _ _ _ _ _ _ _ _ _ _ _ _ _ _ _ _ _ _ _ _ _ _ _ _ _ _ _ _ _ _ _ _ _ _ _ _ _ w7 H7 => ?_) _ _ _ _ _ _ _ _ _ _ _ _ _ _ _ _ _ _ _ _ _ _ _ _ _ _ _ _ _ _ _ _ _ _ _ _ _ _ _ _ _ _ _ _ _ _ _ _ _ _ _ _ _ _ _ _ _ _ _ _ _ _ _ _ _ _ _ _ _ _ _ _ _ _ _ _ _ _ _ _ _ _ _ _ _ _ _ _ _ _ _ _ _ _ _ _ _ _ _ _ _ _ _ _ _ _ _ _ _ _ _ _ _ _ _ _ _ _ _ _ _ _ _ _ _ _ _ _ _ _ _ _ _ _ _ _ _ _ _ _ _ _ _ _ _ _ _ _ _ _ _ _ _ _ _ _ _ _ _ _ _ _ _ _ _ _ _ _ _ _ _ _ _ _ _ _ _ _ _ _ _ _ _ _ _ _ _ _ _ _ _ _ _ _ _ _ _ _ _ _ _ _
  · intro hz hf
    have hd : (jdD b.data.toList).S.fl = 0 := by
      rcases Classical.em ((jdD b.data.toList).S.fl = 0) with x | x
      · exact x
      · unfold jd4 at hz; rw [if_neg x] at hz; exact hz
    have e4 : jd4 b.data.toList = (jdD b.data.toList).S := by unfold jd4; rw [if_pos hd, hf]; rfl
    rw [e4]
    obtain ⟨u1, u2, u3, u4, u5⟩ := hU hd
    exact ⟨u1, u2, by omega, u4, u5⟩
  rw [jd4_S] at H7
  refine rb6 _ _ _ _ _ _ _ _ _ _ _ b _ _ _ _ _ _ _ _ _ h1000 hb iS H7 ?_ ?_ _ _ _ _ _ _ _ _ _ _ _ _ _ _ _ _ _ _ _ _ _ _ _ _ _ _ _ _ _ _ _ _ _ _ _ _ _ _ _ _ _ _ _ _ _ _ _ _ _ _ _ _ _ _ _ _ _ _ _ _ _ _ _ _ _ _ _ _ _ _ _ _ _ _ _ _ _ _ _ _ _ _ _ _ _ _ _ _ _ _ _ _ _ _ _ _ _ _ _ _ _ _ _ _ _ _ _ _ _ _ _ _ _ _ _ _ _ _ _ _ _ _ _ _ _ _ _ _ _ _ _ _ _ _ _ _ _ _ _ _ _ _ _ _ _ _ _ _ _ _ _ _ _ _ _ _ _ _ _ _ _ _ _ _ _ _ _ _ _ _ _ _ _ _ _ _ _ _ _ _ _ _ _ _ _ _ _ _ _ _ _ _ _ _ _ _ _ _ _ _ _ _
  · intro w' h1 h2
    exact ⟨fun _ => rfl, fun h => absurd h h1, h2⟩
  · intro w' a cap h1 h2 h3
    exact ⟨fun h => absurd h1 h, fun _ => ⟨a, _, cap, rfl, h2⟩, h3⟩
end Bw
end Go.Proofs.YtemohjamcdkcmaaGreatDoor
