/- Joined out of our texts: RbPart4. -/
import Derived.Test.YthdhhmflfdbkhaaGreatDoorLawFrameReadRAU
import Derived.Test.YthdhhmflfdbkhaaGreatDoorLawFrameReadRBH
/- The document's own ReadBits, part 4. -/
namespace Go.Proofs.YthdhhmflfdbkhaaGreatDoor
open Go.ChangeShapes Go.WideShapes Go.ChangeAt Go.RowKit
namespace Bw
open Bm Cm
set_option maxHeartbeats 8000000 in
set_option maxRecDepth 100000 in
theorem rb4 (tl : Code) (R0 : Ending → World → Prop) (w0 : World) (B top gb gr gF ga gf gh gq : Nat) (b : ByteArray) (w : World) (S : RS) (id : Int) (lo fa re : Bool) (sz : Int) (v : Value) (dt : List UInt8) (h1000 : b.size ≤ 1000) (hb : rowB b.data.toList = true) (hI : Inv b.data.toList S 553) (hD : ∀ W, Below B w0 W → W.cell? ⟨5, 1, none⟩ = some (.int .u8 1)) 
    (h : RB w0 B top gb gr gF ga gf gh gq b w S id lo fa re sz v dt)
    (hT : ∀ (x0 x3 x4 x12 x13 x14 x15 x17 x18 x19 x20 x21 x22 x23 x24 x25 x26 x27 x28 x29 x30 x31 x32 x33 x34 x35 x36 x37 x38 x39 x40 x41 x42 x43 x44 x45 x46 x47 x48 x49 x50 x51 x52 x53 x54 x55 x56 x57 x58 x59 x60 x61 x62 x63 x64 x65 x66 x67 x68 x69 x70 x71 x72 x73 x74 x75 x76 x77 x78 x79 x80 x81 x82 x83 x84 x85 x86 x87 x88 x89 x90 x91 x92 x93 x94 x95 x96 x97 x98 x99 x100 x101 x102 x103 x104 x105 x106 x107 x108 x109 x110 x111 x112 x113 x114 x115 x116 x117 x118 x119 x120 x121 x122 x123 x124 x125 x126 x127 x128 x129 x130 x131 x132 x133 x134 x135 x136 x137 x138 x139 x140 x141 x142 x143 x144 x145 x146 x147 x148 x149 x150 x151 x152 x153 x154 x155 x156 x157 x158 x159 x160 x161 x162 x163 x164 x165 x166 x167 x168 x169 x170 x171 x172 x173 x174 x175 x176 x177 x178 x179 x180 x181 x182 x183 x184 x185 x186 x187 x188 x189 x190 x191 x192 x193 x194 x195 x196 x197 x198 x199 x200 x201 x202 x203 x204 x205 x206 x207 x208 x209 x210 x211 : Value) (w' : World), RB w0 B top gb gr gF ga gf gh gq b w' (if S.fl = 0 then (if fa then S else sumJ b.data.toList S) else S) id lo fa re sz v dt → tl.wp Tryz.prog (bodyPost Tryz.prog Tryz.f10 R0) ⟨#[x0, .pointer (some ⟨gb, 0, none⟩), .pointer (some ⟨gr, 0, none⟩), x3, x4, .pointer (some ⟨gF, 0, none⟩), .pointer (some ⟨ga, 0, none⟩), .pointer (some ⟨gf, 0, none⟩), .pointer (some ⟨gh, 0, none⟩), .pointer (some ⟨gq, 0, none⟩), .func (.func 33) #[] #[.pointer (some ⟨gq, 0, none⟩)], .func (.func 34) #[] #[.pointer (some ⟨gf, 0, none⟩)], x12, x13, x14, x15, .func (.func 37) #[] #[.pointer (some ⟨gf, 0, none⟩), .pointer (some ⟨ga, 0, none⟩), .pointer (some ⟨gb, 0, none⟩)], x17, x18, x19, x20, x21, x22, x23, x24, x25, x26, x27, x28, x29, x30, x31, x32, x33, x34, x35, x36, x37, x38, x39, x40, x41, x42, x43, x44, x45, x46, x47, x48, x49, x50, x51, x52, x53, x54, x55, x56, x57, x58, x59, x60, x61, x62, x63, x64, x65, x66, x67, x68, x69, x70, x71, x72, x73, x74, x75, x76, x77, x78, x79, x80, x81, x82, x83, x84, x85, x86, x87, x88, x89, x90, x91, x92, x93, x94, x95, x96, x97, x98, x99, x100, x101, x102, x103, x104, x105, x106, x107, x108, x109, x110, x111, x112, x113, x114, x115, x116, x117, x118, x119, x120, x121, x122, x123, x124, x125, x126, x127, x128, x129, x130, x131, x132, x133, x134, x135, x136, x137, x138, x139, x140, x141, x142, x143, x144, x145, x146, x147, x148, x149, x150, x151, x152, x153, x154, x155, x156, x157, x158, x159, x160, x161, x162, x163, x164, x165, x166, x167, x168, x169, x170, x171, x172, x173, x174, x175, x176, x177, x178, x179, x180, x181, x182, x183, x184, x185, x186, x187, x188, x189, x190, x191, x192, x193, x194, x195, x196, x197, x198, x199, x200, x201, x202, x203, x204, x205, x206, x207, x208, x209, x210, x211], []⟩ w')
    (u0 u3 u4 u12 u13 u14 u15 u16 u17 u18 u19 u20 u21 u22 u23 u24 u25 u26 u27 u28 u29 u30 u31 u32 u33 u34 u35 u36 u37 u38 u39 u40 u41 u42 u43 u44 u45 u46 u47 u48 u49 u50 u51 u52 u53 u54 u55 u56 u57 u58 u59 u60 u61 u62 u63 u64 u65 u66 u67 u68 u69 u70 u71 u72 u73 u74 u75 u76 u77 u78 u79 u80 u81 u82 u83 u84 u85 u86 u87 u88 u89 u90 u91 u92 u93 u94 u95 u96 u97 u98 u99 u100 u101 u102 u103 u104 u105 u106 u107 u108 u109 u110 u111 u112 u113 u114 u115 u116 u117 u118 u119 u120 u121 u122 u123 u124 u125 u126 u127 u128 u129 u130 u131 u132 u133 u134 u135 u136 u137 u138 u139 u140 u141 u142 u143 u144 u145 u146 u147 u148 u149 u150 u151 u152 u153 u154 u155 u156 u157 u158 u159 u160 u161 u162 u163 u164 u165 u166 u167 u168 u169 u170 u171 u172 u173 u174 u175 u176 u177 u178 u179 u180 u181 u182 u183 u184 u185 u186 u187 u188 u189 u190 u191 u192 u193 u194 u195 u196 u197 u198 u199 u200 u201 u202 u203 u204 u205 u206 u207 u208 u209 u210 u211 : Value) : (withTail 2 (dropSeq 16 rbBody) tl).wp Tryz.prog (bodyPost Tryz.prog Tryz.f10 R0) ⟨#[u0, .pointer (some ⟨gb, 0, none⟩), .pointer (some ⟨gr, 0, none⟩), u3, u4, .pointer (some ⟨gF, 0, none⟩), .pointer (some ⟨ga, 0, none⟩), .pointer (some ⟨gf, 0, none⟩), .pointer (some ⟨gh, 0, none⟩), .pointer (some ⟨gq, 0, none⟩), .func (.func 33) #[] #[.pointer (some ⟨gq, 0, none⟩)], .func (.func 34) #[] #[.pointer (some ⟨gf, 0, none⟩)], u12, u13, u14, u15, u16, u17, u18, u19, u20, u21, u22, u23, u24, u25, u26, u27, u28, u29, u30, u31, u32, u33, u34, u35, u36, u37, u38, u39, u40, u41, u42, u43, u44, u45, u46, u47, u48, u49, u50, u51, u52, u53, u54, u55, u56, u57, u58, u59, u60, u61, u62, u63, u64, u65, u66, u67, u68, u69, u70, u71, u72, u73, u74, u75, u76, u77, u78, u79, u80, u81, u82, u83, u84, u85, u86, u87, u88, u89, u90, u91, u92, u93, u94, u95, u96, u97, u98, u99, u100, u101, u102, u103, u104, u105, u106, u107, u108, u109, u110, u111, u112, u113, u114, u115, u116, u117, u118, u119, u120, u121, u122, u123, u124, u125, u126, u127, u128, u129, u130, u131, u132, u133, u134, u135, u136, u137, u138, u139, u140, u141, u142, u143, u144, u145, u146, u147, u148, u149, u150, u151, u152, u153, u154, u155, u156, u157, u158, u159, u160, u161, u162, u163, u164, u165, u166, u167, u168, u169, u170, u171, u172, u173, u174, u175, u176, u177, u178, u179, u180, u181, u182, u183, u184, u185, u186, u187, u188, u189, u190, u191, u192, u193, u194, u195, u196, u197, u198, u199, u200, u201, u202, u203, u204, u205, u206, u207, u208, u209, u210, u211], []⟩ w := by
  show Code.wp _ (.seq _ (.seq _ tl)) _ _ _
  have HT := Hid.mk hT
  have HB := Hid.mk hb
  clear hT hb
  have l0 := Hid.mk hI.n
  have hIt := Hid.mk (fun j => hI.tJ HB.out j)
  have hro := Hid.mk hI.row
  have hol := hI.n
  have hf := h.st.f.cell
  have hh := h.st.h.cell
  obtain ⟨_, _, d2, _⟩ := h.cells
  have H0 := Hid.mk h
  clear h
  by_cases hz : S.fl = 0
  · rw [if_pos hz] at HT
    rw [hz] at hf
    cases fa
    · have A1 := Hid.mk (Ww.sumOf_any 0 ⟨S.o.toArray⟩ w (hD w H0.out.bel) (by omega) (by rw [mk_size]; omega) (by rw [mk_list]; exact hro.out))
      rw [mk_list] at A1
      clear hol hI
      go_wp2_with fail
      refine A1.out.mono ?_
      rintro e w1 ⟨rfl, hb1⟩
      have H1 := Hid.mk (H0.out.kept hb1)
      clear hb1 A1 H0 hf hh d2
      obtain ⟨X, hX⟩ : ∃ X, X = ByteArray.mk (bitsHead (sumV 0 S.o) (kS 0) (kS 0)).toArray := ⟨_, rfl⟩
      rw [← hX]
      have hXl : X.data.toList = sumL 0 S.o := by rw [hX]; rfl
      have HX := Hid.mk hXl
      clear hX hXl
      go_wp2_with fail
      go_loopw [15, 135] (fun g i wr => ∃ (j : Nat) (G : ByteArray), j ≤ 15 ∧ i = .int .i64 j ∧ g = .string G ∧ G.data.toList = (tJ b.data.toList S j).1 ∧ RB w0 B top gb gr gF ga gf gh gq b wr (tJ b.data.toList S j).2 id lo false re sz v dt) (fun _ i _ => 15 - (intOf i).toNat)
      case atStart => exact ⟨0, ⟨#[]⟩, by omega, rfl, rfl, rfl, H1.out⟩
      case round =>
        clear H1
        obtain ⟨j, G, hj, rfl, rfl, hG, hR⟩ := hrel
        have HG := Hid.mk hG
        have hGs : G.size ≤ 15 := by
          have e : G.size = j := by rw [ba_size hG, tJ_len]
          omega
        clear hG
        by_cases hlt : j < 15
        · have hlt' : (j : Int) < 15 := by omega
          have H2 := Hid.mk hR
          clear hR
          have q2 := H2.out.bit
          have A2 := Hid.mk (bit1_any gb gh gf ga b (tJ b.data.toList S j).2 wr H2.out.st h1000 (by have := (hIt.out j).n; omega))
          go_wp2_with fail
          refine A2.out.mono ?_
          rintro e w2 ⟨rfl, s2, t2⟩
          have H3 := Hid.mk (H2.out.call s2 t2)
          clear s2 t2 A2 H2 q2
          go_wp2_with fail
          go_roundw
          case rel =>
            refine ⟨j + 1, _, by omega, by go_num, rfl, ?_, H3.out⟩
            rw [ba_cat, HG.out]; rfl
          case measure => simp [intOf]; omega
        · have e : j = 15 := by omega
          subst e
          have H2 := Hid.mk hR
          clear hR
          have A2 := Hid.mk (must3_any gb gh gf ga b (tJ b.data.toList S 15).2 (G.toList == X.toList) 6 wr H2.out.st)
          go_wp2_with fail
          refine A2.out.mono ?_
          rintro e w2 ⟨rfl, s2, t2⟩
          have e2 : (G.toList == X.toList) = ((tJ b.data.toList S 15).1 == sumL 0 S.o) := by rw [ByteArray.toList_eq, ByteArray.toList_eq, HG.out, HX.out]
          rw [e2] at s2
          have H3 := Hid.mk (H2.out.call s2 t2)
          clear s2 t2 A2 H2 e2
          go_wp2_with fail
          apply HT.out
          exact H3.out
    · clear hol hI
      go_wp2_with fail
      apply HT.out
      exact H0.out
  · rw [if_neg hz] at HT
    have hz' : (S.fl == 0) = false := by simpa using hz
    clear hol hI
    go_wp2_with fail
    apply HT.out
    exact H0.out
end Bw
end Go.Proofs.YthdhhmflfdbkhaaGreatDoor
