/- Joined out of our texts: RbPart3b. -/
import Derived.Test.YthdhhmflfdbkhaaGreatDoorLawFrameReadRAU
import Derived.Test.YthdhhmflfdbkhaaGreatDoorLawFrameReadRAV
import Derived.Deep.RegionLaw
import Derived.Deep.AppendLies
/- The document's own ReadBits, part 3, the data. -/
namespace Go.Proofs.YthdhhmflfdbkhaaGreatDoor
open Go.ChangeShapes Go.WideShapes Go.ChangeAt Go.RowKit
namespace Bw
open Bm Cm
theorem dlJ_stop (b : List UInt8) (S : RS) (j : Nat) (h : (dlJ b S j).1.fl ≠ 0) : ∀ m, dlJ b S (j + m) = dlJ b S j
  | 0 => rfl
  | m + 1 => by rw [← Nat.add_assoc, dlJ, dlJ_stop b S j h m, if_neg h]
theorem RB.app {w0 : World} {B top gb gr gF ga gf gh gq : Nat} {b : ByteArray} {w : World} {S : RS} {id : Int} {lo fa re : Bool} {sz : Int} {v : Value} {dt : List UInt8} {w5 : World} {v' : Value} {dt' : List UInt8}
    (h : RB w0 B top gb gr gF ga gf gh gq b w S id lo fa re sz v dt) (hb : Below top w w5) (hD : w5.ownsRow top 5 1 v' dt'.length (cellsOf dt')) :
    w5.cell? ⟨gF, 5, none⟩ = some v ∧ w5.frozen? ⟨gF, 5, none⟩ = false ∧ RB w0 B top gb gr gF ga gf gh gq b (w5.setCell ⟨gF, 5, none⟩ v') S id lo fa re sz v' dt' := by
  have nd := h.nd
  simp at nd
  have g1 := h.ge gb (by simp)
  have g2 := h.ge gr (by simp)
  have g3 := h.ge gF (by simp)
  have g4 := h.ge ga (by simp)
  have g5 := h.ge gf (by simp)
  have g6 := h.ge gh (by simp)
  have g7 := h.ge gq (by simp)
  have hF5 : w5.heap[gF]? = some (.cells #[.int .i64 id, .bool lo, .bool fa, .bool re, .int .i64 sz, v] 24 (0, 0)) := (hb.block gF g3.2).trans h.F
  have hF := heap_setCell_same w5 gF 5 _ _ v' hF5
  simp only [List.setIfInBounds_toArray, List.set_cons_zero, List.set_cons_succ] at hF
  have o : ∀ k, k ≠ gF → (w5.setCell ⟨gF, 5, none⟩ v').heap[k]? = w5.heap[k]? := fun k hk => Below.heap_setCell _ _ _ _ hk
  have ht : Tch [gF] w5 (w5.setCell ⟨gF, 5, none⟩ v') := (Tch.refl _ _).setK (by simp) 5 v'
  refine ⟨by rw [cell_of_row w5 gF 5 _ _ _ hF5]; rfl, frozen_of_row w5 gF 5 _ _ hF5, ⟨⟨?_, ?_, ?_, ?_, h.st.ne⟩, ?_, hF, ?_, ownsRow_tch hD ht (fun g hg => by simp at hg; omega), ?_, h.nd, h.ge, h.hB, ?_⟩⟩
  · exact (o gb (by omega)).trans ((hb.block gb g1.2).trans h.st.b)
  · exact (o gh (by omega)).trans ((hb.block gh g6.2).trans h.st.h)
  · exact (o gf (by omega)).trans ((hb.block gf g5.2).trans h.st.f)
  · exact (o ga (by omega)).trans ((hb.block ga g4.2).trans h.st.a)
  · exact (o gq (by omega)).trans ((hb.block gq g7.2).trans h.q)
  · exact (o gr (by omega)).trans ((hb.block gr g2.2).trans h.R)
  · exact Tch.below (h.bel.trans (hb.mono (by omega))) ht (fun g hg => by simp at hg; omega) h.hB
  · exact Nat.le_trans h.ht (Nat.le_trans hb.size ht.size)
theorem sizes_le (n : Nat) (h : n ≤ 15) : sizesL.getD n 0 ≤ 64 := by
  have : ∀ m : Fin 16, sizesL.getD m.val 0 ≤ 64 := by decide +kernel
  exact this ⟨n, by omega⟩
theorem sizes_cell (w : World) (n : Nat) (h : n ≤ 15) : (w.alloc sizesC).cell? ⟨w.heap.size, n, none⟩ = some (.int .i64 ((sizesL.getD n 0 : Nat) : Int)) := by
  rw [cell_of_row _ _ n _ _ _ (heap_alloc_new w sizesC)]
  have hi' : n < 16 := by omega
  clear h
  match n, hi' with
  | 0, _ => rfl
  | 1, _ => rfl
  | 2, _ => rfl
  | 3, _ => rfl
  | 4, _ => rfl
  | 5, _ => rfl
  | 6, _ => rfl
  | 7, _ => rfl
  | 8, _ => rfl
  | 9, _ => rfl
  | 10, _ => rfl
  | 11, _ => rfl
  | 12, _ => rfl
  | 13, _ => rfl
  | 14, _ => rfl
  | 15, _ => rfl
  | n + 16, h => exact absurd h (by omega)
set_option maxHeartbeats 8000000 in
set_option maxRecDepth 100000 in
theorem rb3b (tl : Code) (R0 : Ending → World → Prop) (w0 : World) (B top gb gr gF ga gf gh gq : Nat) (b : ByteArray) (w : World) (S : RS) (id : Int) (lo fa re : Bool) (n : Nat) (h1000 : b.size ≤ 1000) (hb : rowB b.data.toList = true) (hI : Inv b.data.toList S 41) (hn : n ≤ 15) 
    (h : RB w0 B top gb gr gF ga gf gh gq b w S id lo fa re 0 (.slice none 0 0) [])
    (hT : ∀ (x0 x3 x4 x12 x13 x14 x15 x16 x17 x18 x19 x20 x21 x22 x23 x24 x25 x26 x27 x28 x29 x30 x31 x32 x33 x34 x35 x36 x37 x38 x39 x40 x41 x42 x43 x44 x45 x46 x47 x48 x49 x50 x51 x52 x53 x54 x55 x56 x57 x58 x59 x60 x61 x62 x63 x64 x65 x66 x67 x68 x69 x70 x71 x72 x73 x74 x75 x76 x77 x78 x79 x80 x81 x82 x83 x84 x85 x86 x87 x88 x89 x90 x91 x92 x93 x94 x95 x96 x97 x98 x99 x100 x101 x102 x103 x104 x105 x106 x107 x108 x109 x110 x111 x112 x113 x114 x115 x116 x117 x118 x119 x120 x121 x122 x123 x124 x125 x126 x127 x128 x129 x130 x131 x132 x133 x134 x135 x136 x137 x138 x139 x140 x141 x142 x143 x144 x145 x146 x147 x148 x149 x150 x151 x152 x153 x154 x155 x156 x157 x158 x159 x160 x161 x162 x163 x164 x165 x166 x167 x168 x169 x170 x171 x172 x173 x174 x175 x176 x177 x178 x179 x180 x181 x182 x183 x184 x185 x186 x187 x188 x189 x190 x191 x192 x193 x194 x195 x196 x197 x198 x199 x200 x201 x202 x203 x204 x205 x206 x207 x208 x209 x210 x211 : Value) (w' : World), (∃ v, RB w0 B top gb gr gF ga gf gh gq b w' (if re then S else (dlJ b.data.toList S (sizesL.getD n 0)).1) id lo fa re (if re then (n : Int) else 0) v (if re then [] else (dlJ b.data.toList S (sizesL.getD n 0)).2)) → tl.wp Tryz.prog (bodyPost Tryz.prog Tryz.f10 R0) ⟨#[x0, .pointer (some ⟨gb, 0, none⟩), .pointer (some ⟨gr, 0, none⟩), x3, x4, .pointer (some ⟨gF, 0, none⟩), .pointer (some ⟨ga, 0, none⟩), .pointer (some ⟨gf, 0, none⟩), .pointer (some ⟨gh, 0, none⟩), .pointer (some ⟨gq, 0, none⟩), .func (.func 33) #[] #[.pointer (some ⟨gq, 0, none⟩)], .func (.func 34) #[] #[.pointer (some ⟨gf, 0, none⟩)], x12, x13, x14, x15, x16, x17, x18, x19, x20, x21, x22, x23, x24, x25, x26, x27, x28, x29, x30, x31, x32, x33, x34, x35, x36, x37, x38, x39, x40, x41, x42, x43, x44, x45, x46, x47, x48, x49, x50, x51, x52, x53, x54, x55, x56, x57, x58, x59, x60, x61, x62, x63, x64, x65, x66, x67, x68, x69, x70, x71, x72, x73, x74, x75, x76, x77, x78, x79, x80, x81, x82, x83, x84, x85, x86, x87, x88, x89, x90, x91, x92, x93, x94, x95, x96, x97, x98, x99, x100, x101, x102, x103, x104, x105, x106, x107, x108, x109, x110, x111, x112, x113, x114, x115, x116, x117, x118, x119, x120, x121, x122, x123, x124, x125, x126, x127, x128, x129, x130, x131, x132, x133, x134, x135, x136, x137, x138, x139, x140, x141, x142, x143, x144, x145, x146, x147, x148, x149, x150, x151, x152, x153, x154, x155, x156, x157, x158, x159, x160, x161, x162, x163, x164, x165, x166, x167, x168, x169, x170, x171, x172, x173, x174, x175, x176, x177, x178, x179, x180, x181, x182, x183, x184, x185, x186, x187, x188, x189, x190, x191, x192, x193, x194, x195, x196, x197, x198, x199, x200, x201, x202, x203, x204, x205, x206, x207, x208, x209, x210, x211], []⟩ w')
    (u0 u3 u4 u13 u14 u15 u16 u17 u18 u19 u20 u21 u22 u23 u24 u25 u26 u27 u28 u29 u30 u31 u32 u33 u34 u35 u36 u37 u38 u39 u40 u41 u42 u43 u44 u45 u46 u47 u48 u49 u50 u51 u52 u53 u54 u55 u56 u57 u58 u59 u60 u61 u62 u63 u64 u65 u66 u67 u68 u69 u70 u71 u72 u73 u74 u75 u76 u77 u78 u79 u80 u81 u82 u83 u84 u85 u86 u87 u88 u89 u90 u91 u92 u93 u94 u95 u96 u97 u98 u99 u100 u101 u102 u103 u104 u105 u106 u107 u108 u109 u110 u111 u112 u113 u114 u115 u116 u117 u118 u119 u120 u121 u122 u123 u124 u125 u126 u127 u128 u129 u130 u131 u132 u133 u134 u135 u136 u137 u138 u139 u140 u141 u142 u143 u144 u145 u146 u147 u148 u149 u150 u151 u152 u153 u154 u155 u156 u157 u158 u159 u160 u161 u162 u163 u164 u165 u166 u167 u168 u169 u170 u171 u172 u173 u174 u175 u176 u177 u178 u179 u180 u181 u182 u183 u184 u185 u186 u187 u188 u189 u190 u191 u192 u193 u194 u195 u196 u197 u198 u199 u200 u201 u202 u203 u204 u205 u206 u207 u208 u209 u210 u211 : Value) : (withTail 1 (dropSeq 15 rbBody) tl).wp Tryz.prog (bodyPost Tryz.prog Tryz.f10 R0) ⟨#[u0, .pointer (some ⟨gb, 0, none⟩), .pointer (some ⟨gr, 0, none⟩), u3, u4, .pointer (some ⟨gF, 0, none⟩), .pointer (some ⟨ga, 0, none⟩), .pointer (some ⟨gf, 0, none⟩), .pointer (some ⟨gh, 0, none⟩), .pointer (some ⟨gq, 0, none⟩), .func (.func 33) #[] #[.pointer (some ⟨gq, 0, none⟩)], .func (.func 34) #[] #[.pointer (some ⟨gf, 0, none⟩)], .int .i64 (n : Int), u13, u14, u15, u16, u17, u18, u19, u20, u21, u22, u23, u24, u25, u26, u27, u28, u29, u30, u31, u32, u33, u34, u35, u36, u37, u38, u39, u40, u41, u42, u43, u44, u45, u46, u47, u48, u49, u50, u51, u52, u53, u54, u55, u56, u57, u58, u59, u60, u61, u62, u63, u64, u65, u66, u67, u68, u69, u70, u71, u72, u73, u74, u75, u76, u77, u78, u79, u80, u81, u82, u83, u84, u85, u86, u87, u88, u89, u90, u91, u92, u93, u94, u95, u96, u97, u98, u99, u100, u101, u102, u103, u104, u105, u106, u107, u108, u109, u110, u111, u112, u113, u114, u115, u116, u117, u118, u119, u120, u121, u122, u123, u124, u125, u126, u127, u128, u129, u130, u131, u132, u133, u134, u135, u136, u137, u138, u139, u140, u141, u142, u143, u144, u145, u146, u147, u148, u149, u150, u151, u152, u153, u154, u155, u156, u157, u158, u159, u160, u161, u162, u163, u164, u165, u166, u167, u168, u169, u170, u171, u172, u173, u174, u175, u176, u177, u178, u179, u180, u181, u182, u183, u184, u185, u186, u187, u188, u189, u190, u191, u192, u193, u194, u195, u196, u197, u198, u199, u200, u201, u202, u203, u204, u205, u206, u207, u208, u209, u210, u211], []⟩ w := by
  show Code.wp _ (.seq _ tl) _ _ _
  have HT := Hid.mk hT
  have HB := Hid.mk hb
  clear hT hb
  obtain ⟨i0, hi, hz0, hz1, hz2⟩ := info_parts info_u8
  have H0 := Hid.mk h
  clear h
  cases re
  · simp only [Bool.false_eq_true, if_false] at HT
    obtain ⟨_, _, _, d3, _⟩ := H0.out.cells
    have hIt := Hid.mk (fun j => hI.dlJ HB.out j)
    have hs64 : (sizesL.getD n 0) ≤ 64 := sizes_le n hn
    obtain ⟨m, hm⟩ : ∃ m, m = (sizesL.getD n 0) := ⟨_, rfl⟩
    rw [← hm] at HT hs64
    have HM := Hid.mk hm
    clear hm hI
    go_wp2_with fail
    go_loopw [13] (fun i wr => ∃ (j : Nat) (v : Value), j ≤ m ∧ i = .int .i64 j ∧ RB w0 B top gb gr gF ga gf gh gq b wr (dlJ b.data.toList S j).1 id lo fa false 0 v (dlJ b.data.toList S j).2) (fun i _ => m - (intOf i).toNat)
    case atStart => exact ⟨0, _, by omega, rfl, H0.out⟩
    case round =>
      clear H0 d3
      obtain ⟨j, v, hj, rfl, hR⟩ := hrel
      have H1 := Hid.mk hR
      clear hR
      have hf := H1.out.st.f.cell
      by_cases hz : (dlJ b.data.toList S j).1.fl = 0
      · rw [hz] at hf
        have A2 := Hid.mk (sizes_any wr)
        go_wp2_with fail
        refine A2.out.mono ?_
        rintro e w2 ⟨rfl, hw2⟩
        have hc2 : w2.cell? ⟨wr.heap.size, n, none⟩ = some (.int .i64 (m : Int)) := by
          rw [hw2, HM.out]
          exact sizes_cell wr n hn
        have hb2 : Below wr.heap.size wr w2 := by rw [hw2]; exact (Below.refl _ _).alloc (Nat.le_refl _) _
        have H2 := Hid.mk (H1.out.kept hb2)
        clear hb2
        clear hw2 A2 H1 hf
        by_cases hlt : j < m
        · have hlt' : (j : Int) < (m : Int) := by omega
          have hn15 : (n : Int) ≤ 15 := by omega
          have HDr := Hid.mk H2.out.drew
          have A3 := Hid.mk (num2_any gb gh gf ga gq 8 b (dlJ b.data.toList S j).1 w2.drew HDr.out.st HDr.out.q HDr.out.hqn h1000 HB.out (by omega) (by have := (hIt.out j).n; omega))
          have hN := numJ_lt b.data.toList HB.out (dlJ b.data.toList S j).1 8
          obtain ⟨N, hNe⟩ : ∃ N, N = (numJ b.data.toList (dlJ b.data.toList S j).1 8).1 := ⟨_, rfl⟩
          rw [← hNe] at A3 hN
          have HNE := Hid.mk hNe
          have hN' : (N : Int) ≤ 255 := by omega
          have hwr : IntKind.u8.wrap (N : Int) = (N : Int) := by unfold IntKind.wrap; simp [IntKind.bits, IntKind.signed]; omega
          have hdl := dlJ_len b.data.toList S j
          have hdl2 : (dlJ b.data.toList S j).2.length ≤ 64 := by omega
          have HNX : Hid (dlJ b.data.toList S (j + 1) = ((numJ b.data.toList (dlJ b.data.toList S j).1 8).2, (dlJ b.data.toList S j).2 ++ [UInt8.ofNat N])) := Hid.mk (by rw [dlJ, if_pos hz, hNe])
          have HC : Hid (cellsOf ((dlJ b.data.toList S j).2 ++ [UInt8.ofNat N]) = cellsOf (dlJ b.data.toList S j).2 ++ [Value.int .u8 (N : Int)]) := Hid.mk (by simp [cellsOf]; omega)
          clear hdl
          obtain ⟨_, _, _, _, _, d5⟩ := HDr.out.cells
          clear hNe hN
          go_wp2_with fail
          go_region_law (first
            | (have hA := A3; clear A3; go_simp; go_wp2_with (go_at_call 33; refine hA.out.mono ?_; rintro e w3 ⟨rfl, s3, t3⟩; have H4 := Hid.mk (HDr.out.call s3 t3); obtain ⟨_, _, _, _, _, k5⟩ := H4.out.cells; have k5a : (w3.alloc (.cells #[.int .u8 (N : Int)] 5)).cell? ⟨gF, 5, none⟩ = some v := (H4.out.kept ((Below.refl _ _).alloc (Nat.le_refl _) _)).cells.2.2.2.2.2; clear s3 t3 hA))
            | (refine step_append_lies _ (by rfl) (.tmp 119) (.tmp 123) 22 (by rfl) top 5 i0 (.int .u8 0) 1 1 Tryz.underlying22 hi hz0 hz1 hz2 rfl (by decide) v (dlJ b.data.toList S j).2.length (cellsOf (dlJ b.data.toList S j).2) (by rfl) (H4.out.D.alloc _) ⟨w3.heap.size, 0, none⟩ 1 1 [Value.int .u8 N] (by rfl) rfl (by intro q u hq; match q, hq with | 0, hq => (simp at hq; subst hq; simp [Addr.add])) (by intro u hu; simp at hu; subst hu; rfl) (by decide) (by unfold maxLen; omega) (by omega) (by have := H4.out.ht; simp; omega) (w3.heap.size + 1) (by simp) ?_; intro g cap w5 hown hgrow hat hlt5; have hbT := Below.grown ((Below.refl top w3).alloc H4.out.ht _) hgrow (by have := H4.out.ht; simp; omega) (fun q hq => (H4.out.D.lt q hq).1); have hD5 : w5.ownsRow top 5 1 (.slice (some ⟨g, 0, none⟩) ((dlJ b.data.toList S j).2.length + 1) cap) ((dlJ b.data.toList S j).2 ++ [UInt8.ofNat N]).length (cellsOf ((dlJ b.data.toList S j).2 ++ [UInt8.ofNat N])) := (by rw [HC.out, List.length_append]; exact hown); obtain ⟨k6, z6, H6⟩ := H4.out.app hbT hD5; have H7 := Hid.mk H6; clear hown hgrow hat hlt5 hbT hD5 H6 H4 k5 k5a))
          all_goals focus
            go_wp2_with fail
            go_roundw
            case rel => exact ⟨j + 1, _, by omega, by go_num, by rw [HNX.out]; exact H7.out⟩
            case measure => simp [intOf]; omega
        · have hge : ¬ ((j : Int) < (m : Int)) := by omega
          have hgd : decide ((j : Int) < (m : Int)) = false := by simp; omega
          have hn15 : (n : Int) ≤ 15 := by omega
          have e : j = m := by omega
          subst e
          go_wp2_with fail
          apply HT.out
          exact ⟨_, H2.out⟩
      · have hz' : ((dlJ b.data.toList S j).1.fl == 0) = false := by simpa using hz
        have e := dlJ_stop b.data.toList S j hz (m - j)
        rw [show j + (m - j) = m by omega] at e
        have HE := Hid.mk e
        clear e
        go_wp2_with fail
        apply HT.out
        rw [HE.out]
        exact ⟨_, H1.out⟩
  · simp only [if_true] at HT
    obtain ⟨_, _, _, d3, _⟩ := H0.out.cells
    clear hI
    obtain ⟨_, _, _, _, cH1, _⟩ := H0.out.cells
    have zH1 := H0.out.frozen 4
    have H1 := Hid.mk (H0.out.sz' (n : Int))
    clear H0
    go_wp2_with fail
    apply HT.out
    exact ⟨_, H1.out⟩
end Bw
end Go.Proofs.YthdhhmflfdbkhaaGreatDoor
