/- Joined out of our texts: RbPart5, RbPart6, RbAll, WnlawC, SizesRow, RulesRow, BruijnRow, WnoiseWalk. -/
import Derived.Test.YthdhhmflfdbkhaaGreatDoorLawWireNoisePAH
import Derived.Test.YthdhhmflfdbkhaaGreatDoorLawWireNoiseRAT
import Derived.Test.YthdhhmflfdbkhaaGreatDoorLawWireNoisePAG
import Derived.Test.YthdhhmflfdbkhaaGreatDoorLawWireNoisePAE
import Derived.Test.YthdhhmflfdbkhaaGreatDoorLawWireNoisePAF
import Derived.Test.YthdhhmflfdbkhaaGreatDoorLawWireNoiseRAV
import Derived.Test.YthdhhmflfdbkhaaGreatDoorLawWireNoiseRAS
import Derived.Test.YthdhhmflfdbkhaaGreatDoorRows
import Derived.Test.YthdhhmflfdbkhaaGreatDoorLawWireNoisePAA
import Derived.Lib.LaidU8
import Derived.Test.YthdhhmflfdbkhaaGreatDoorIsRow
import Derived.Test.YthdhhmflfdbkhaaGreatDoorRefFrame
/- The document's own ReadBits, part 5. -/
namespace Go.Proofs.YthdhhmflfdbkhaaGreatDoor
open Go.ChangeShapes Go.WideShapes Go.ChangeAt Go.RowKit
namespace Bw
open Bm Cm
theorem toNat_ne (a c : UInt8) : ((a.toNat : Int) != (c.toNat : Int)) = (a != c) := by
  by_cases h : a = c
  · subst h; simp
  · have h1 : (a != c) = true := by simpa using h
    rw [h1]
    simp only [bne_iff_ne, ne_eq]
    intro e
    exact h (UInt8.toNat_inj.1 (by omega))
theorem isBytes_ownB {w : World} {base : Nat} {v : Value} {n : Nat} {l : List UInt8} (h : w.ownsRow base 5 1 v n (cellsOf l)) :
    ∃ a cap, v = .slice a n cap ∧ IsBytes w a n cap l ∧ ∀ x, a = some x → base ≤ x.block := by
  have h0 := h
  obtain ⟨hl, h2⟩ := h
  have hn : l.length = n := by simpa [cellsOf] using hl
  rcases h2 with ⟨rfl, h1⟩ | ⟨g, cap, cur, rfl, hg, hh, hc, hm, hsz, htk⟩
  · subst h1; exact ⟨none, 0, rfl, ⟨hn, Nat.le_refl _, Nat.zero_le _, (fun _ => rfl), (fun x hx => by cases hx)⟩, fun x hx => by cases hx⟩
  · refine ⟨some ⟨g, 0, none⟩, cap, rfl, ⟨hn, hc, hm, (fun h => by cases h), fun x hx i hi => ?_⟩, fun x hx => by cases hx; exact hg⟩
    cases hx
    exact h0.cells rfl i _ (by simp [cellsOf, hn, hi])
set_option maxHeartbeats 8000000 in
set_option maxRecDepth 100000 in
theorem rb5 (tl : Code) (R0 : Ending → World → Prop) (w0 : World) (B top gb gr gF ga gf gh gq : Nat) (b : ByteArray) (w : World) (S : RS) (id : Int) (lo fa re : Bool) (sz : Int) (v : Value) (dt : List UInt8) (h1000 : b.size ≤ 1000) (hb : rowB b.data.toList = true) (hU : S.fl = 0 → fa = true → 1 ≤ S.u ∧ S.u ≤ 900 ∧ S.u ≤ b.size ∧ S.o.length ≤ S.u ∧ dt.length ≤ 64) (hD : ∀ W, Below B w0 W → W.cell? ⟨5, 1, none⟩ = some (.int .u8 1)) 
    (h : RB w0 B top gb gr gF ga gf gh gq b w S id lo fa re sz v dt)
    (hT : ∀ (x0 x3 x4 x12 x13 x14 x15 x17 x18 x19 x20 x21 x22 x23 x24 x25 x26 x27 x28 x29 x30 x31 x32 x33 x34 x35 x36 x37 x38 x39 x40 x41 x42 x43 x44 x45 x46 x47 x48 x49 x50 x51 x52 x53 x54 x55 x56 x57 x58 x59 x60 x61 x62 x63 x64 x65 x66 x67 x68 x69 x70 x71 x72 x73 x74 x75 x76 x77 x78 x79 x80 x81 x82 x83 x84 x85 x86 x87 x88 x89 x90 x91 x92 x93 x94 x95 x96 x97 x98 x99 x100 x101 x102 x103 x104 x105 x106 x107 x108 x109 x110 x111 x112 x113 x114 x115 x116 x117 x118 x119 x120 x121 x122 x123 x124 x125 x126 x127 x128 x129 x130 x131 x132 x133 x134 x135 x136 x137 x138 x139 x140 x141 x142 x143 x144 x145 x146 x147 x148 x149 x150 x151 x152 x153 x154 x155 x156 x157 x158 x159 x160 x161 x162 x163 x164 x165 x166 x167 x168 x169 x170 x171 x172 x173 x174 x175 x176 x177 x178 x179 x180 x181 x182 x183 x184 x185 x186 x187 x188 x189 x190 x191 x192 x193 x194 x195 x196 x197 x198 x199 x200 x201 x202 x203 x204 x205 x206 x207 x208 x209 x210 x211 : Value) (w' : World), RB w0 B top gb gr gF ga gf gh gq b w' (if S.fl = 0 then (if fa then fixedJ b.data.toList S dt.length else S) else S) id lo fa re sz v dt → tl.wp Tryz.prog (bodyPost Tryz.prog Tryz.f10 R0) ⟨#[x0, .pointer (some ⟨gb, 0, none⟩), .pointer (some ⟨gr, 0, none⟩), x3, x4, .pointer (some ⟨gF, 0, none⟩), .pointer (some ⟨ga, 0, none⟩), .pointer (some ⟨gf, 0, none⟩), .pointer (some ⟨gh, 0, none⟩), .pointer (some ⟨gq, 0, none⟩), .func (.func 33) #[] #[.pointer (some ⟨gq, 0, none⟩)], .func (.func 34) #[] #[.pointer (some ⟨gf, 0, none⟩)], x12, x13, x14, x15, .func (.func 37) #[] #[.pointer (some ⟨gf, 0, none⟩), .pointer (some ⟨ga, 0, none⟩), .pointer (some ⟨gb, 0, none⟩)], x17, x18, x19, x20, x21, x22, x23, x24, x25, x26, x27, x28, x29, x30, x31, x32, x33, x34, x35, x36, x37, x38, x39, x40, x41, x42, x43, x44, x45, x46, x47, x48, x49, x50, x51, x52, x53, x54, x55, x56, x57, x58, x59, x60, x61, x62, x63, x64, x65, x66, x67, x68, x69, x70, x71, x72, x73, x74, x75, x76, x77, x78, x79, x80, x81, x82, x83, x84, x85, x86, x87, x88, x89, x90, x91, x92, x93, x94, x95, x96, x97, x98, x99, x100, x101, x102, x103, x104, x105, x106, x107, x108, x109, x110, x111, x112, x113, x114, x115, x116, x117, x118, x119, x120, x121, x122, x123, x124, x125, x126, x127, x128, x129, x130, x131, x132, x133, x134, x135, x136, x137, x138, x139, x140, x141, x142, x143, x144, x145, x146, x147, x148, x149, x150, x151, x152, x153, x154, x155, x156, x157, x158, x159, x160, x161, x162, x163, x164, x165, x166, x167, x168, x169, x170, x171, x172, x173, x174, x175, x176, x177, x178, x179, x180, x181, x182, x183, x184, x185, x186, x187, x188, x189, x190, x191, x192, x193, x194, x195, x196, x197, x198, x199, x200, x201, x202, x203, x204, x205, x206, x207, x208, x209, x210, x211], []⟩ w')
    (u0 u3 u4 u12 u13 u14 u15 u17 u18 u19 u20 u21 u22 u23 u24 u25 u26 u27 u28 u29 u30 u31 u32 u33 u34 u35 u36 u37 u38 u39 u40 u41 u42 u43 u44 u45 u46 u47 u48 u49 u50 u51 u52 u53 u54 u55 u56 u57 u58 u59 u60 u61 u62 u63 u64 u65 u66 u67 u68 u69 u70 u71 u72 u73 u74 u75 u76 u77 u78 u79 u80 u81 u82 u83 u84 u85 u86 u87 u88 u89 u90 u91 u92 u93 u94 u95 u96 u97 u98 u99 u100 u101 u102 u103 u104 u105 u106 u107 u108 u109 u110 u111 u112 u113 u114 u115 u116 u117 u118 u119 u120 u121 u122 u123 u124 u125 u126 u127 u128 u129 u130 u131 u132 u133 u134 u135 u136 u137 u138 u139 u140 u141 u142 u143 u144 u145 u146 u147 u148 u149 u150 u151 u152 u153 u154 u155 u156 u157 u158 u159 u160 u161 u162 u163 u164 u165 u166 u167 u168 u169 u170 u171 u172 u173 u174 u175 u176 u177 u178 u179 u180 u181 u182 u183 u184 u185 u186 u187 u188 u189 u190 u191 u192 u193 u194 u195 u196 u197 u198 u199 u200 u201 u202 u203 u204 u205 u206 u207 u208 u209 u210 u211 : Value) : (withTail 1 (dropSeq 18 rbBody) tl).wp Tryz.prog (bodyPost Tryz.prog Tryz.f10 R0) ⟨#[u0, .pointer (some ⟨gb, 0, none⟩), .pointer (some ⟨gr, 0, none⟩), u3, u4, .pointer (some ⟨gF, 0, none⟩), .pointer (some ⟨ga, 0, none⟩), .pointer (some ⟨gf, 0, none⟩), .pointer (some ⟨gh, 0, none⟩), .pointer (some ⟨gq, 0, none⟩), .func (.func 33) #[] #[.pointer (some ⟨gq, 0, none⟩)], .func (.func 34) #[] #[.pointer (some ⟨gf, 0, none⟩)], u12, u13, u14, u15, .func (.func 37) #[] #[.pointer (some ⟨gf, 0, none⟩), .pointer (some ⟨ga, 0, none⟩), .pointer (some ⟨gb, 0, none⟩)], u17, u18, u19, u20, u21, u22, u23, u24, u25, u26, u27, u28, u29, u30, u31, u32, u33, u34, u35, u36, u37, u38, u39, u40, u41, u42, u43, u44, u45, u46, u47, u48, u49, u50, u51, u52, u53, u54, u55, u56, u57, u58, u59, u60, u61, u62, u63, u64, u65, u66, u67, u68, u69, u70, u71, u72, u73, u74, u75, u76, u77, u78, u79, u80, u81, u82, u83, u84, u85, u86, u87, u88, u89, u90, u91, u92, u93, u94, u95, u96, u97, u98, u99, u100, u101, u102, u103, u104, u105, u106, u107, u108, u109, u110, u111, u112, u113, u114, u115, u116, u117, u118, u119, u120, u121, u122, u123, u124, u125, u126, u127, u128, u129, u130, u131, u132, u133, u134, u135, u136, u137, u138, u139, u140, u141, u142, u143, u144, u145, u146, u147, u148, u149, u150, u151, u152, u153, u154, u155, u156, u157, u158, u159, u160, u161, u162, u163, u164, u165, u166, u167, u168, u169, u170, u171, u172, u173, u174, u175, u176, u177, u178, u179, u180, u181, u182, u183, u184, u185, u186, u187, u188, u189, u190, u191, u192, u193, u194, u195, u196, u197, u198, u199, u200, u201, u202, u203, u204, u205, u206, u207, u208, u209, u210, u211], []⟩ w := by
  show Code.wp _ (.seq _ tl) _ _ _
  have HT := Hid.mk hT
  have HB := Hid.mk hb
  clear hT hb
  have hf := h.st.f.cell
  obtain ⟨_, _, d2, _, _, d5⟩ := h.cells
  have H0 := Hid.mk h
  clear h
  by_cases hz : S.fl = 0
  · rw [if_pos hz] at HT
    cases fa
    · rw [hz] at hf
      clear hU
      go_wp2_with fail
      apply HT.out
      exact H0.out
    · obtain ⟨u1, u2, u3, u4', u5'⟩ := hU hz rfl
      clear hU
      obtain ⟨da, dc, rfl, _, _⟩ := isBytes_ownB H0.out.D
      have hb' := H0.out.st.b.cell
      have hh := H0.out.st.h.cell
      have ha := H0.out.st.a.cell
      rw [hz] at hf
      have hPl : (b.extract 0 S.u).data.toList = b.data.toList.take S.u := by
        have := extract_list b 0 S.u
        rw [Nat.zero_add] at this
        rw [this, List.drop_zero]
      have hsl : ∀ W, (Instr.slice 9 (.string b) none (some (.int .i64 (S.u : Int))) none).run Tryz.prog W = .ok (.string (b.extract 0 S.u)) W := by
        intro W
        rw [run_slice_string_h W _ b Tryz.underlying9 .i64 _ (by omega) (by omega)]
        rw [show ((S.u : Int)).toNat = S.u by omega]
      generalize b.extract 0 S.u = P at *
      have hPs : P.size = S.u := by rw [ba_size hPl, List.length_take]; have : b.data.toList.length = b.size := by simp
                                    omega
      have hPr : rowB P.data.toList = true := by rw [hPl]; exact rowB_take HB.out _
      have hL := fast_len5 S.o (b.data.toList.take S.u) dt.length
      have A1 := Hid.mk (fastEnd_any ⟨S.o.toArray⟩ P dt.length w (hD w H0.out.bel) (by rw [mk_size]; omega) (by omega) (by omega) hPr (by omega))
      rw [mk_list, hPl] at A1
      have hpz : P.size - 1 < P.size := by omega
      have hpi : P[P.size - 1] = lastB (b.data.toList.take S.u) := by rw [at_getD P _ hpz, hPl]; unfold lastB; rw [← hPl]; simp
      have hP1 : (1 : Int) ≤ (P.size : Int) := by omega
      have hP2 : (P.size : Int) ≤ 900 := by omega
      have HPL := Hid.mk hPl
      have HPR := Hid.mk hPr
      have HPS := Hid.mk hPs
      have HL := Hid.mk hL
      have HU := Hid.mk (And.intro u1 u3)
      clear hPl hPr hPs hL u1 u2 u3 u4' u5'
      go_wp2_with fail
      refine A1.out.mono ?_
      rintro e w1 ⟨rfl, hb1⟩
      have H1 := Hid.mk (H0.out.kept hb1)
      clear hb1 A1 H0 hf hb' hh ha d2 d5 hsl
      obtain ⟨Wt, hWt⟩ : ∃ Wt, Wt = ByteArray.mk (fastL S.o (b.data.toList.take S.u) dt.length).toArray := ⟨_, rfl⟩
      rw [← hWt]
      have hWl : Wt.data.toList = (fastL S.o (b.data.toList.take S.u) dt.length) := by rw [hWt]
      have hWs : Wt.size = (fastL S.o (b.data.toList.take S.u) dt.length).length := by rw [ba_size hWl]
      have HWL := Hid.mk hWl
      have HWS := Hid.mk hWs
      have hW32 : Wt.size ≤ 32 := by have := HL.out.2; omega
      clear hWt hWl hWs
      have A2 := Hid.mk (plain4_any gb gh gf ga Wt.size b S w1 H1.out.st h1000 (by have := HU.out; omega) (by omega))
      go_wp2_with fail
      refine A2.out.mono ?_
      rintro e w2 ⟨rfl, s2, t2⟩
      have H2 := Hid.mk (H1.out.call s2 t2)
      clear s2 t2 A2 H1
      obtain ⟨G, hG⟩ : ∃ G, G = ByteArray.mk (nextP b.data.toList S Wt.size).1.toArray := ⟨_, rfl⟩
      rw [← hG]
      have hGl : G.data.toList = (nextP b.data.toList S Wt.size).1 := by rw [hG]
      have hGs : G.size ≤ 32 := by rw [ba_size hGl]; have := nextP_len b.data.toList S Wt.size; omega
      have HGL := Hid.mk hGl
      clear hG hGl
      go_wp2_with fail
      go_loopw [20] (fun i wr => ∃ j : Nat, 5 * j ≤ G.size + 4 ∧ i = .int .i64 ((5 * j : Nat) : Int) ∧ RB w0 B top gb gr gF ga gf gh gq b wr (fxJ G.data.toList (lastB (b.data.toList.take S.u)) (nextP b.data.toList S Wt.size).2 j) id lo true re sz (.slice da dt.length dc) dt) (fun i _ => 40 - (intOf i).toNat)
      case atStart => exact ⟨0, by omega, rfl, H2.out⟩
      case round =>
        clear H2
        obtain ⟨j, hj, rfl, hR⟩ := hrel
        have H3 := Hid.mk hR
        clear hR
        obtain ⟨i, hi⟩ : ∃ i : Nat, i = 5 * j := ⟨_, rfl⟩
        rw [← hi]
        have HI := Hid.mk hi
        have hi4 : i ≤ G.size + 4 := by omega
        clear hi hj
        by_cases hlt : i < G.size
        · have hlt' : (i : Int) < (G.size : Int) := by omega
          obtain ⟨ci, hci⟩ : ∃ c, c = G[i] := ⟨_, rfl⟩
          have hgi : G[i] = ci := hci.symm
          have HGI := Hid.mk (show G.data.toList.getD (5 * j) 0 = ci by rw [← HI.out, hci, at_getD G i hlt])
          clear hci
          by_cases h0 : i = 0
          · have hj0 : j = 0 := by have := HI.out; omega
            have HFX := Hid.mk (show fxB G.data.toList (lastB (b.data.toList.take S.u)) j = lastB (b.data.toList.take S.u) by unfold fxB; rw [if_pos hj0])
            obtain ⟨lb, hlb⟩ : ∃ c, c = lastB (b.data.toList.take S.u) := ⟨_, rfl⟩
            rw [← hlb] at hpi
            have HLB := Hid.mk hlb
            clear hlb hj0
            subst h0
            go_wp2_with fail
            refine (must3_any gb gh gf ga b (fxJ G.data.toList (lastB (b.data.toList.take S.u)) (nextP b.data.toList S Wt.size).2 j) _ 5 wr H3.out.st).mono ?_
            rintro e w4 ⟨rfl, s4, t4⟩
            have e4 : mustM (fxJ G.data.toList (lastB (b.data.toList.take S.u)) (nextP b.data.toList S Wt.size).2 j) (((ci.toNat : Int)) != ((lb).toNat : Int)) 5 = (fxJ G.data.toList (lastB (b.data.toList.take S.u)) (nextP b.data.toList S Wt.size).2 (j + 1)) := by
              rw [toNat_ne]
              show _ = mustM _ (G.data.toList.getD (5 * j) 0 != fxB G.data.toList (lastB (b.data.toList.take S.u)) j) 5
              rw [HGI.out, HFX.out, HLB.out]
            rw [e4] at s4
            have H4 := Hid.mk (H3.out.call s4 t4)
            clear s4 t4 H3 e4
            go_wp2_with fail
            go_roundw
            case rel => exact ⟨j + 1, by have := HI.out; omega, int_eq (by have := HI.out; omega), H4.out⟩
            case measure => first | (simp [intOf]; done) | (simp [intOf]; omega)
          · have h0' : (0 : Int) < (i : Int) := by omega
            have hm : i - 1 < G.size := by omega
            obtain ⟨cm, hcm⟩ : ∃ c, c = G[i - 1] := ⟨_, rfl⟩
            have hgm : G[i - 1] = cm := hcm.symm
            have HFX := Hid.mk (show fxB G.data.toList (lastB (b.data.toList.take S.u)) j = cm by unfold fxB; rw [if_neg (by have := HI.out; omega), ← HI.out, hcm, at_getD G (i - 1) hm])
            clear hcm
            go_wp2_with fail
            refine (must3_any gb gh gf ga b (fxJ G.data.toList (lastB (b.data.toList.take S.u)) (nextP b.data.toList S Wt.size).2 j) _ 5 wr H3.out.st).mono ?_
            rintro e w4 ⟨rfl, s4, t4⟩
            have e4 : mustM (fxJ G.data.toList (lastB (b.data.toList.take S.u)) (nextP b.data.toList S Wt.size).2 j) (((ci.toNat : Int)) != ((cm).toNat : Int)) 5 = (fxJ G.data.toList (lastB (b.data.toList.take S.u)) (nextP b.data.toList S Wt.size).2 (j + 1)) := by
              rw [toNat_ne]
              show _ = mustM _ (G.data.toList.getD (5 * j) 0 != fxB G.data.toList (lastB (b.data.toList.take S.u)) j) 5
              rw [HGI.out, HFX.out]
            rw [e4] at s4
            have H4 := Hid.mk (H3.out.call s4 t4)
            clear s4 t4 H3 e4
            go_wp2_with fail
            go_roundw
            case rel => exact ⟨j + 1, by have := HI.out; omega, by rw [HI.out]; go_num, H4.out⟩
            case measure => simp [intOf]; omega
        · have hge : (G.size : Int) ≤ (i : Int) := by omega
          have A4 := Hid.mk (must3_any gb gh gf ga b (fxJ G.data.toList (lastB (b.data.toList.take S.u)) (nextP b.data.toList S Wt.size).2 j) (G.toList == Wt.toList) 6 wr H3.out.st)
          go_wp2_with fail
          refine A4.out.mono ?_
          rintro e w4 ⟨rfl, s4, t4⟩
          have e2 : (G.toList == Wt.toList) = ((nextP b.data.toList S (fastL S.o (b.data.toList.take S.u) dt.length).length).1 == (fastL S.o (b.data.toList.take S.u) dt.length)) := by rw [ByteArray.toList_eq, ByteArray.toList_eq, HGL.out, HWL.out, HWS.out]
          have hlen : G.size = (nextP b.data.toList S Wt.size).1.length := by rw [ba_size HGL.out]
          have ej : j = ((nextP b.data.toList S Wt.size).1.length + 4) / 5 := by have := HI.out; omega
          rw [e2, HGL.out, ej, HWS.out] at s4
          have H4 := Hid.mk (H3.out.call s4 t4)
          clear s4 t4 A4 H3 e2 hlen ej
          go_wp2_with fail
          apply HT.out
          exact H4.out
  · rw [if_neg hz] at HT
    have hz' : (S.fl == 0) = false := by simpa using hz
    clear hU
    go_wp2_with fail
    apply HT.out
    exact H0.out
end Bw
end Go.Proofs.YthdhhmflfdbkhaaGreatDoor

/- The document's own ReadBits, part 6. -/
namespace Go.Proofs.YthdhhmflfdbkhaaGreatDoor
open Go.ChangeShapes Go.WideShapes Go.ChangeAt Go.RowKit
namespace Bw
open Bm Cm
theorem frame_iB : (Tryz.prog.info? 24).map (·.size) = some 6 := by kernel_rfl
theorem row_drewB {w : World} {g : Nat} {o : Obj} (h : w.heap[g]? = some o) : w.drew.heap[g]? = some o := h
theorem isBytes_tchB {gs : List Nat} {w w' : World} {a : Option Addr} {len cap : Nat} {l : List UInt8} (hb : IsBytes w a len cap l) (ht : Tch gs w w') (hg : ∀ x, a = some x → x.block ∉ gs) : IsBytes w'.drew a len cap l := by
  refine ⟨hb.1, hb.2.1, hb.2.2.1, hb.2.2.2.1, fun x hx i hi => ?_⟩
  have hv := hb.2.2.2.2 x hx i hi
  have hlt := block_lt_of_cell hv
  have hblk : (x.add i).block = x.block := by unfold Addr.add; split <;> rfl
  show w'.cell? (x.add i) = _
  unfold World.cell? at hv ⊢
  rw [ht.block _ hlt (by rw [hblk]; exact hg x hx)]
  exact hv
theorem rb_results (tmps : Array Value) (w : World) (g : Nat) (cs : Array Value) (x y : Value) (hp : tmps.getD 2 undef = .pointer (some ⟨g, 0, none⟩)) (hx : tmps.getD 3 undef = x) (hy : tmps.getD 4 undef = y) (h : w.heap[g]? = some (.cells cs 24 (0, 0))) (hs : cs.size = 6) :
    (results Tryz.f10 tmps).run Tryz.prog w = .ok (.tuple #[.agg cs, x, y]) w := by
  have hl := run_loadVar_row (P := Tryz.prog) w g 24 24 cs (0, 0) _ h Tryz.underlying24 rfl (by rw [frame_iB, hs])
  have hp' : tmps[2]?.getD undef = .pointer (some ⟨g, 0, none⟩) := by simpa using hp
  have hx' : tmps[3]?.getD undef = x := by simpa using hx
  have hy' : tmps[4]?.getD undef = y := by simpa using hy
  simp [results, hp', hx', hy', asAddr, hl]
set_option maxHeartbeats 8000000 in
set_option maxRecDepth 100000 in
theorem rb6 (R0 : Ending → World → Prop) (w0 : World) (B top gb gr gF ga gf gh gq : Nat) (b : ByteArray) (w : World) (S : RS) (id : Int) (lo fa re : Bool) (sz : Int) (v : Value) (dt : List UInt8) (h1000 : b.size ≤ 1000) (hb : rowB b.data.toList = true) (hI : Inv b.data.toList S 568) 
    (h : RB w0 B top gb gr gF ga gf gh gq b w S id lo fa re sz v dt)
    (hR1 : ∀ w', (endJ b.data.toList S).fl ≠ 0 → Below B w0 w' → R0 (.returned (.tuple #[.agg #[.int .i64 0, .bool false, .bool false, .bool false, .int .i64 0, .slice none 0 0], .int .i64 0, .int .i64 (endJ b.data.toList S).fl])) w')
    (hR2 : ∀ w' a cap, (endJ b.data.toList S).fl = 0 → IsBytes w' a dt.length cap dt → Below B w0 w' → R0 (.returned (.tuple #[.agg #[.int .i64 id, .bool lo, .bool fa, .bool re, .int .i64 sz, .slice a dt.length cap], .int .i64 ((endJ b.data.toList S).u : Int), .int .i64 0])) w')
    (u0 u3 u4 u12 u13 u14 u15 u17 u18 u19 u20 u21 u22 u23 u24 u25 u26 u27 u28 u29 u30 u31 u32 u33 u34 u35 u36 u37 u38 u39 u40 u41 u42 u43 u44 u45 u46 u47 u48 u49 u50 u51 u52 u53 u54 u55 u56 u57 u58 u59 u60 u61 u62 u63 u64 u65 u66 u67 u68 u69 u70 u71 u72 u73 u74 u75 u76 u77 u78 u79 u80 u81 u82 u83 u84 u85 u86 u87 u88 u89 u90 u91 u92 u93 u94 u95 u96 u97 u98 u99 u100 u101 u102 u103 u104 u105 u106 u107 u108 u109 u110 u111 u112 u113 u114 u115 u116 u117 u118 u119 u120 u121 u122 u123 u124 u125 u126 u127 u128 u129 u130 u131 u132 u133 u134 u135 u136 u137 u138 u139 u140 u141 u142 u143 u144 u145 u146 u147 u148 u149 u150 u151 u152 u153 u154 u155 u156 u157 u158 u159 u160 u161 u162 u163 u164 u165 u166 u167 u168 u169 u170 u171 u172 u173 u174 u175 u176 u177 u178 u179 u180 u181 u182 u183 u184 u185 u186 u187 u188 u189 u190 u191 u192 u193 u194 u195 u196 u197 u198 u199 u200 u201 u202 u203 u204 u205 u206 u207 u208 u209 u210 u211 : Value) : (dropSeq 19 rbBody).wp Tryz.prog (bodyPost Tryz.prog Tryz.f10 R0) ⟨#[u0, .pointer (some ⟨gb, 0, none⟩), .pointer (some ⟨gr, 0, none⟩), u3, u4, .pointer (some ⟨gF, 0, none⟩), .pointer (some ⟨ga, 0, none⟩), .pointer (some ⟨gf, 0, none⟩), .pointer (some ⟨gh, 0, none⟩), .pointer (some ⟨gq, 0, none⟩), .func (.func 33) #[] #[.pointer (some ⟨gq, 0, none⟩)], .func (.func 34) #[] #[.pointer (some ⟨gf, 0, none⟩)], u12, u13, u14, u15, .func (.func 37) #[] #[.pointer (some ⟨gf, 0, none⟩), .pointer (some ⟨ga, 0, none⟩), .pointer (some ⟨gb, 0, none⟩)], u17, u18, u19, u20, u21, u22, u23, u24, u25, u26, u27, u28, u29, u30, u31, u32, u33, u34, u35, u36, u37, u38, u39, u40, u41, u42, u43, u44, u45, u46, u47, u48, u49, u50, u51, u52, u53, u54, u55, u56, u57, u58, u59, u60, u61, u62, u63, u64, u65, u66, u67, u68, u69, u70, u71, u72, u73, u74, u75, u76, u77, u78, u79, u80, u81, u82, u83, u84, u85, u86, u87, u88, u89, u90, u91, u92, u93, u94, u95, u96, u97, u98, u99, u100, u101, u102, u103, u104, u105, u106, u107, u108, u109, u110, u111, u112, u113, u114, u115, u116, u117, u118, u119, u120, u121, u122, u123, u124, u125, u126, u127, u128, u129, u130, u131, u132, u133, u134, u135, u136, u137, u138, u139, u140, u141, u142, u143, u144, u145, u146, u147, u148, u149, u150, u151, u152, u153, u154, u155, u156, u157, u158, u159, u160, u161, u162, u163, u164, u165, u166, u167, u168, u169, u170, u171, u172, u173, u174, u175, u176, u177, u178, u179, u180, u181, u182, u183, u184, u185, u186, u187, u188, u189, u190, u191, u192, u193, u194, u195, u196, u197, u198, u199, u200, u201, u202, u203, u204, u205, u206, u207, u208, u209, u210, u211], []⟩ w := by
  conv => arg 2; whnf
  have HR1 := Hid.mk hR1
  have HR2 := Hid.mk hR2
  have HB := Hid.mk hb
  clear hR1 hR2 hb
  have H0 := Hid.mk h
  have hul : S.u ≤ 1000 := by have := hI.u; have : b.data.toList.length = b.size := by simp
                              omega
  clear h hI
  have A1 := Hid.mk (plain4_any gb gh gf ga 10 b S w H0.out.st h1000 (by omega) (by omega))
  go_wp2_with fail
  refine A1.out.mono ?_
  rintro e w1 ⟨rfl, s1, t1⟩
  have H1 := Hid.mk (H0.out.call s1 t1)
  clear s1 t1 A1 H0 hul
  obtain ⟨E0, hE⟩ : ∃ E0, E0 = ByteArray.mk (nextP b.data.toList S 10).1.toArray := ⟨_, rfl⟩
  rw [← hE]
  have hEl : E0.data.toList = (nextP b.data.toList S 10).1 := by rw [hE]
  have HE := Hid.mk hEl
  clear hE hEl
  by_cases h1 : E0.data.toList = onesL
  · have HOK : Hid (((nextP b.data.toList S 10).1 == onesL || (nextP b.data.toList S 10).1 == heardL) = true) := Hid.mk (by rw [← HE.out, h1]; decide)
    have eE : E0 = ⟨#[49, 49, 49, 49, 49, 49, 49, 49, 49, 49]⟩ := ba_eq h1
    subst eE
    clear h1
    have A2 := Hid.mk (must3_any gb gh gf ga b (nextP b.data.toList S 10).2 true 4 w1 H1.out.st)
    go_wp2_with fail
    refine A2.out.mono ?_
    rintro e w2 ⟨rfl, s2, t2⟩
    have e2 : mustM (nextP b.data.toList S 10).2 true 4 = (endJ b.data.toList S) := by unfold endJ; rw [HOK.out]
    rw [e2] at s2
    have H2 := Hid.mk (H1.out.call s2 t2)
    clear s2 t2 A2 H1 e2
    by_cases hne : (endJ b.data.toList S).fl = 0
    · obtain ⟨da, dc, rfl, hby, hblk⟩ := isBytes_ownB H2.out.D
      have hz := H2.out.R
      have ks0 := heap_setCell_same w2 gr 0 _ _ (.int .i64 id) hz
      simp only [List.setIfInBounds_toArray, List.set_cons_zero] at ks0
      have ks1 := heap_setCell_same (w2.setCell ⟨gr, 0, none⟩ (.int .i64 id)) gr 1 _ _ (.bool lo) ks0
      simp only [List.setIfInBounds_toArray, List.set_cons_zero, List.set_cons_succ] at ks1
      have ks2 := heap_setCell_same ((w2.setCell ⟨gr, 0, none⟩ (.int .i64 id)).setCell ⟨gr, 1, none⟩ (.bool lo)) gr 2 _ _ (.bool fa) ks1
      simp only [List.setIfInBounds_toArray, List.set_cons_zero, List.set_cons_succ] at ks2
      have ks3 := heap_setCell_same (((w2.setCell ⟨gr, 0, none⟩ (.int .i64 id)).setCell ⟨gr, 1, none⟩ (.bool lo)).setCell ⟨gr, 2, none⟩ (.bool fa)) gr 3 _ _ (.bool re) ks2
      simp only [List.setIfInBounds_toArray, List.set_cons_zero, List.set_cons_succ] at ks3
      have ks4 := heap_setCell_same ((((w2.setCell ⟨gr, 0, none⟩ (.int .i64 id)).setCell ⟨gr, 1, none⟩ (.bool lo)).setCell ⟨gr, 2, none⟩ (.bool fa)).setCell ⟨gr, 3, none⟩ (.bool re)) gr 4 _ _ (.int .i64 sz) ks3
      simp only [List.setIfInBounds_toArray, List.set_cons_zero, List.set_cons_succ] at ks4
      have ks5 := heap_setCell_same (((((w2.setCell ⟨gr, 0, none⟩ (.int .i64 id)).setCell ⟨gr, 1, none⟩ (.bool lo)).setCell ⟨gr, 2, none⟩ (.bool fa)).setCell ⟨gr, 3, none⟩ (.bool re)).setCell ⟨gr, 4, none⟩ (.int .i64 sz)) gr 5 _ _ (.slice da dt.length dc) ks4
      simp only [List.setIfInBounds_toArray, List.set_cons_zero, List.set_cons_succ] at ks5
      have hT1 : Tch [gr] w2 ((((((w2.setCell ⟨gr, 0, none⟩ (.int .i64 id)).setCell ⟨gr, 1, none⟩ (.bool lo)).setCell ⟨gr, 2, none⟩ (.bool fa)).setCell ⟨gr, 3, none⟩ (.bool re)).setCell ⟨gr, 4, none⟩ (.int .i64 sz)).setCell ⟨gr, 5, none⟩ (.slice da dt.length dc)) := ((((((((Tch.refl [gr] w2).setK (by simp) _ _).setK (by simp) _ _).setK (by simp) _ _).setK (by simp) _ _).setK (by simp) _ _).setK (by simp) _ _))
      have HP := Hid.mk (Tch.below H2.out.bel hT1 (fun g hg => by have := H2.out.ge gr (by simp); simp at hg; omega) H2.out.hB).drew
      have HFIN := Hid.mk (row_drewB ks5)
      have b0 := cell_of_row w2 gr 0 _ _ _ hz
      simp at b0
      have f0 := frozen_of_row w2 gr 0 _ _ hz
      have b1 := cell_of_row w2 gr 1 _ _ _ hz
      simp at b1
      have f1 := frozen_of_row w2 gr 1 _ _ hz
      have b2 := cell_of_row w2 gr 2 _ _ _ hz
      simp at b2
      have f2 := frozen_of_row w2 gr 2 _ _ hz
      have b3 := cell_of_row w2 gr 3 _ _ _ hz
      simp at b3
      have f3 := frozen_of_row w2 gr 3 _ _ hz
      have b4 := cell_of_row w2 gr 4 _ _ _ hz
      simp at b4
      have f4 := frozen_of_row w2 gr 4 _ _ hz
      have b5 := cell_of_row w2 gr 5 _ _ _ hz
      simp at b5
      have f5 := frozen_of_row w2 gr 5 _ _ hz
      have HBY := Hid.mk (isBytes_tchB hby hT1 (fun x hx => by have := hblk x hx; have := H2.out.ge gr (by simp); simp; omega))
      have hf := H2.out.st.f.cell
      rw [hne] at hf
      have ha := H2.out.st.a.cell
      have pA := (H2.out.st.a.other (k := gr) (.int .i64 id) (by have nd := H2.out.nd; simp at nd; omega)).cell
      obtain ⟨c0, c1, c2, c3, c4, c5⟩ := H2.out.cells
      clear hT1 ks0 ks1 ks2 ks3 ks4 ks5 hz hby hblk
      go_wp2_with fail
      go_region
      all_goals focus
        go_wp2_with fail
        refine bodyPost_ret (rb_results _ _ gr _ _ _ rfl rfl rfl HFIN.out rfl) rfl ?_
        exact HR2.out _ _ _ hne HBY.out HP.out
    · have hz := H2.out.R
      have ks0 := heap_setCell_same w2 gr 0 _ _ (.int .i64 0) hz
      simp only [List.setIfInBounds_toArray, List.set_cons_zero] at ks0
      have ks1 := heap_setCell_same (w2.setCell ⟨gr, 0, none⟩ (.int .i64 0)) gr 1 _ _ (.bool false) ks0
      simp only [List.setIfInBounds_toArray, List.set_cons_zero, List.set_cons_succ] at ks1
      have ks2 := heap_setCell_same ((w2.setCell ⟨gr, 0, none⟩ (.int .i64 0)).setCell ⟨gr, 1, none⟩ (.bool false)) gr 2 _ _ (.bool false) ks1
      simp only [List.setIfInBounds_toArray, List.set_cons_zero, List.set_cons_succ] at ks2
      have ks3 := heap_setCell_same (((w2.setCell ⟨gr, 0, none⟩ (.int .i64 0)).setCell ⟨gr, 1, none⟩ (.bool false)).setCell ⟨gr, 2, none⟩ (.bool false)) gr 3 _ _ (.bool false) ks2
      simp only [List.setIfInBounds_toArray, List.set_cons_zero, List.set_cons_succ] at ks3
      have ks4 := heap_setCell_same ((((w2.setCell ⟨gr, 0, none⟩ (.int .i64 0)).setCell ⟨gr, 1, none⟩ (.bool false)).setCell ⟨gr, 2, none⟩ (.bool false)).setCell ⟨gr, 3, none⟩ (.bool false)) gr 4 _ _ (.int .i64 0) ks3
      simp only [List.setIfInBounds_toArray, List.set_cons_zero, List.set_cons_succ] at ks4
      have ks5 := heap_setCell_same (((((w2.setCell ⟨gr, 0, none⟩ (.int .i64 0)).setCell ⟨gr, 1, none⟩ (.bool false)).setCell ⟨gr, 2, none⟩ (.bool false)).setCell ⟨gr, 3, none⟩ (.bool false)).setCell ⟨gr, 4, none⟩ (.int .i64 0)) gr 5 _ _ (.slice none 0 0) ks4
      simp only [List.setIfInBounds_toArray, List.set_cons_zero, List.set_cons_succ] at ks5
      have hT1 : Tch [gr] w2 ((((((w2.setCell ⟨gr, 0, none⟩ (.int .i64 0)).setCell ⟨gr, 1, none⟩ (.bool false)).setCell ⟨gr, 2, none⟩ (.bool false)).setCell ⟨gr, 3, none⟩ (.bool false)).setCell ⟨gr, 4, none⟩ (.int .i64 0)).setCell ⟨gr, 5, none⟩ (.slice none 0 0)) := ((((((((Tch.refl [gr] w2).setK (by simp) _ _).setK (by simp) _ _).setK (by simp) _ _).setK (by simp) _ _).setK (by simp) _ _).setK (by simp) _ _))
      have HP := Hid.mk (Tch.below H2.out.bel hT1 (fun g hg => by have := H2.out.ge gr (by simp); simp at hg; omega) H2.out.hB).drew
      have HFIN := Hid.mk (row_drewB ks5)
      have b0 := cell_of_row w2 gr 0 _ _ _ hz
      simp at b0
      have f0 := frozen_of_row w2 gr 0 _ _ hz
      have b1 := cell_of_row w2 gr 1 _ _ _ hz
      simp at b1
      have f1 := frozen_of_row w2 gr 1 _ _ hz
      have b2 := cell_of_row w2 gr 2 _ _ _ hz
      simp at b2
      have f2 := frozen_of_row w2 gr 2 _ _ hz
      have b3 := cell_of_row w2 gr 3 _ _ _ hz
      simp at b3
      have f3 := frozen_of_row w2 gr 3 _ _ hz
      have b4 := cell_of_row w2 gr 4 _ _ _ hz
      simp at b4
      have f4 := frozen_of_row w2 gr 4 _ _ hz
      have b5 := cell_of_row w2 gr 5 _ _ _ hz
      simp at b5
      have f5 := frozen_of_row w2 gr 5 _ _ hz
      have hf := H2.out.st.f.cell
      have hne' : ((endJ b.data.toList S).fl != 0) = true := by simpa using hne
      have pF := (H2.out.st.f.other (k := gr) (.int .i64 0) (by have nd := H2.out.nd; simp at nd; omega)).cell
      clear hT1 ks0 ks1 ks2 ks3 ks4 ks5 hz
      go_wp2_with fail
      go_region
      all_goals focus
        go_wp2_with fail
        refine bodyPost_ret (rb_results _ _ gr _ _ _ rfl rfl rfl HFIN.out rfl) rfl ?_
        exact HR1.out _ hne HP.out
  · by_cases h2 : E0.data.toList = heardL
    · have HOK : Hid (((nextP b.data.toList S 10).1 == onesL || (nextP b.data.toList S 10).1 == heardL) = true) := Hid.mk (by rw [← HE.out, h2]; decide)
      have eE : E0 = ⟨#[49, 48, 49, 49, 49, 49, 49, 49, 49, 49]⟩ := ba_eq h2
      subst eE
      clear h1 h2
      have A2 := Hid.mk (must3_any gb gh gf ga b (nextP b.data.toList S 10).2 true 4 w1 H1.out.st)
      go_wp2_with fail
      refine A2.out.mono ?_
      rintro e w2 ⟨rfl, s2, t2⟩
      have e2 : mustM (nextP b.data.toList S 10).2 true 4 = (endJ b.data.toList S) := by unfold endJ; rw [HOK.out]
      rw [e2] at s2
      have H2 := Hid.mk (H1.out.call s2 t2)
      clear s2 t2 A2 H1 e2
      by_cases hne : (endJ b.data.toList S).fl = 0
      · obtain ⟨da, dc, rfl, hby, hblk⟩ := isBytes_ownB H2.out.D
        have hz := H2.out.R
        have ks0 := heap_setCell_same w2 gr 0 _ _ (.int .i64 id) hz
        simp only [List.setIfInBounds_toArray, List.set_cons_zero] at ks0
        have ks1 := heap_setCell_same (w2.setCell ⟨gr, 0, none⟩ (.int .i64 id)) gr 1 _ _ (.bool lo) ks0
        simp only [List.setIfInBounds_toArray, List.set_cons_zero, List.set_cons_succ] at ks1
        have ks2 := heap_setCell_same ((w2.setCell ⟨gr, 0, none⟩ (.int .i64 id)).setCell ⟨gr, 1, none⟩ (.bool lo)) gr 2 _ _ (.bool fa) ks1
        simp only [List.setIfInBounds_toArray, List.set_cons_zero, List.set_cons_succ] at ks2
        have ks3 := heap_setCell_same (((w2.setCell ⟨gr, 0, none⟩ (.int .i64 id)).setCell ⟨gr, 1, none⟩ (.bool lo)).setCell ⟨gr, 2, none⟩ (.bool fa)) gr 3 _ _ (.bool re) ks2
        simp only [List.setIfInBounds_toArray, List.set_cons_zero, List.set_cons_succ] at ks3
        have ks4 := heap_setCell_same ((((w2.setCell ⟨gr, 0, none⟩ (.int .i64 id)).setCell ⟨gr, 1, none⟩ (.bool lo)).setCell ⟨gr, 2, none⟩ (.bool fa)).setCell ⟨gr, 3, none⟩ (.bool re)) gr 4 _ _ (.int .i64 sz) ks3
        simp only [List.setIfInBounds_toArray, List.set_cons_zero, List.set_cons_succ] at ks4
        have ks5 := heap_setCell_same (((((w2.setCell ⟨gr, 0, none⟩ (.int .i64 id)).setCell ⟨gr, 1, none⟩ (.bool lo)).setCell ⟨gr, 2, none⟩ (.bool fa)).setCell ⟨gr, 3, none⟩ (.bool re)).setCell ⟨gr, 4, none⟩ (.int .i64 sz)) gr 5 _ _ (.slice da dt.length dc) ks4
        simp only [List.setIfInBounds_toArray, List.set_cons_zero, List.set_cons_succ] at ks5
        have hT1 : Tch [gr] w2 ((((((w2.setCell ⟨gr, 0, none⟩ (.int .i64 id)).setCell ⟨gr, 1, none⟩ (.bool lo)).setCell ⟨gr, 2, none⟩ (.bool fa)).setCell ⟨gr, 3, none⟩ (.bool re)).setCell ⟨gr, 4, none⟩ (.int .i64 sz)).setCell ⟨gr, 5, none⟩ (.slice da dt.length dc)) := ((((((((Tch.refl [gr] w2).setK (by simp) _ _).setK (by simp) _ _).setK (by simp) _ _).setK (by simp) _ _).setK (by simp) _ _).setK (by simp) _ _))
        have HP := Hid.mk (Tch.below H2.out.bel hT1 (fun g hg => by have := H2.out.ge gr (by simp); simp at hg; omega) H2.out.hB).drew
        have HFIN := Hid.mk (row_drewB ks5)
        have b0 := cell_of_row w2 gr 0 _ _ _ hz
        simp at b0
        have f0 := frozen_of_row w2 gr 0 _ _ hz
        have b1 := cell_of_row w2 gr 1 _ _ _ hz
        simp at b1
        have f1 := frozen_of_row w2 gr 1 _ _ hz
        have b2 := cell_of_row w2 gr 2 _ _ _ hz
        simp at b2
        have f2 := frozen_of_row w2 gr 2 _ _ hz
        have b3 := cell_of_row w2 gr 3 _ _ _ hz
        simp at b3
        have f3 := frozen_of_row w2 gr 3 _ _ hz
        have b4 := cell_of_row w2 gr 4 _ _ _ hz
        simp at b4
        have f4 := frozen_of_row w2 gr 4 _ _ hz
        have b5 := cell_of_row w2 gr 5 _ _ _ hz
        simp at b5
        have f5 := frozen_of_row w2 gr 5 _ _ hz
        have HBY := Hid.mk (isBytes_tchB hby hT1 (fun x hx => by have := hblk x hx; have := H2.out.ge gr (by simp); simp; omega))
        have hf := H2.out.st.f.cell
        rw [hne] at hf
        have ha := H2.out.st.a.cell
        have pA := (H2.out.st.a.other (k := gr) (.int .i64 id) (by have nd := H2.out.nd; simp at nd; omega)).cell
        obtain ⟨c0, c1, c2, c3, c4, c5⟩ := H2.out.cells
        clear hT1 ks0 ks1 ks2 ks3 ks4 ks5 hz hby hblk
        go_wp2_with fail
        go_region
        all_goals focus
          go_wp2_with fail
          refine bodyPost_ret (rb_results _ _ gr _ _ _ rfl rfl rfl HFIN.out rfl) rfl ?_
          exact HR2.out _ _ _ hne HBY.out HP.out
      · have hz := H2.out.R
        have ks0 := heap_setCell_same w2 gr 0 _ _ (.int .i64 0) hz
        simp only [List.setIfInBounds_toArray, List.set_cons_zero] at ks0
        have ks1 := heap_setCell_same (w2.setCell ⟨gr, 0, none⟩ (.int .i64 0)) gr 1 _ _ (.bool false) ks0
        simp only [List.setIfInBounds_toArray, List.set_cons_zero, List.set_cons_succ] at ks1
        have ks2 := heap_setCell_same ((w2.setCell ⟨gr, 0, none⟩ (.int .i64 0)).setCell ⟨gr, 1, none⟩ (.bool false)) gr 2 _ _ (.bool false) ks1
        simp only [List.setIfInBounds_toArray, List.set_cons_zero, List.set_cons_succ] at ks2
        have ks3 := heap_setCell_same (((w2.setCell ⟨gr, 0, none⟩ (.int .i64 0)).setCell ⟨gr, 1, none⟩ (.bool false)).setCell ⟨gr, 2, none⟩ (.bool false)) gr 3 _ _ (.bool false) ks2
        simp only [List.setIfInBounds_toArray, List.set_cons_zero, List.set_cons_succ] at ks3
        have ks4 := heap_setCell_same ((((w2.setCell ⟨gr, 0, none⟩ (.int .i64 0)).setCell ⟨gr, 1, none⟩ (.bool false)).setCell ⟨gr, 2, none⟩ (.bool false)).setCell ⟨gr, 3, none⟩ (.bool false)) gr 4 _ _ (.int .i64 0) ks3
        simp only [List.setIfInBounds_toArray, List.set_cons_zero, List.set_cons_succ] at ks4
        have ks5 := heap_setCell_same (((((w2.setCell ⟨gr, 0, none⟩ (.int .i64 0)).setCell ⟨gr, 1, none⟩ (.bool false)).setCell ⟨gr, 2, none⟩ (.bool false)).setCell ⟨gr, 3, none⟩ (.bool false)).setCell ⟨gr, 4, none⟩ (.int .i64 0)) gr 5 _ _ (.slice none 0 0) ks4
        simp only [List.setIfInBounds_toArray, List.set_cons_zero, List.set_cons_succ] at ks5
        have hT1 : Tch [gr] w2 ((((((w2.setCell ⟨gr, 0, none⟩ (.int .i64 0)).setCell ⟨gr, 1, none⟩ (.bool false)).setCell ⟨gr, 2, none⟩ (.bool false)).setCell ⟨gr, 3, none⟩ (.bool false)).setCell ⟨gr, 4, none⟩ (.int .i64 0)).setCell ⟨gr, 5, none⟩ (.slice none 0 0)) := ((((((((Tch.refl [gr] w2).setK (by simp) _ _).setK (by simp) _ _).setK (by simp) _ _).setK (by simp) _ _).setK (by simp) _ _).setK (by simp) _ _))
        have HP := Hid.mk (Tch.below H2.out.bel hT1 (fun g hg => by have := H2.out.ge gr (by simp); simp at hg; omega) H2.out.hB).drew
        have HFIN := Hid.mk (row_drewB ks5)
        have b0 := cell_of_row w2 gr 0 _ _ _ hz
        simp at b0
        have f0 := frozen_of_row w2 gr 0 _ _ hz
        have b1 := cell_of_row w2 gr 1 _ _ _ hz
        simp at b1
        have f1 := frozen_of_row w2 gr 1 _ _ hz
        have b2 := cell_of_row w2 gr 2 _ _ _ hz
        simp at b2
        have f2 := frozen_of_row w2 gr 2 _ _ hz
        have b3 := cell_of_row w2 gr 3 _ _ _ hz
        simp at b3
        have f3 := frozen_of_row w2 gr 3 _ _ hz
        have b4 := cell_of_row w2 gr 4 _ _ _ hz
        simp at b4
        have f4 := frozen_of_row w2 gr 4 _ _ hz
        have b5 := cell_of_row w2 gr 5 _ _ _ hz
        simp at b5
        have f5 := frozen_of_row w2 gr 5 _ _ hz
        have hf := H2.out.st.f.cell
        have hne' : ((endJ b.data.toList S).fl != 0) = true := by simpa using hne
        have pF := (H2.out.st.f.other (k := gr) (.int .i64 0) (by have nd := H2.out.nd; simp at nd; omega)).cell
        clear hT1 ks0 ks1 ks2 ks3 ks4 ks5 hz
        go_wp2_with fail
        go_region
        all_goals focus
          go_wp2_with fail
          refine bodyPost_ret (rb_results _ _ gr _ _ _ rfl rfl rfl HFIN.out rfl) rfl ?_
          exact HR1.out _ hne HP.out
    · have HOK : Hid (((nextP b.data.toList S 10).1 == onesL || (nextP b.data.toList S 10).1 == heardL) = false) := Hid.mk (by rw [← HE.out]; simp [h1, h2])
      have q1 : (E0.toList == [49, 49, 49, 49, 49, 49, 49, 49, 49, 49]) = false := by rw [ByteArray.toList_eq]; simpa [onesL] using h1
      have q2 : (E0.toList == [49, 48, 49, 49, 49, 49, 49, 49, 49, 49]) = false := by rw [ByteArray.toList_eq]; simpa [heardL] using h2
      clear h1 h2
      have A2 := Hid.mk (must3_any gb gh gf ga b (nextP b.data.toList S 10).2 false 4 w1 H1.out.st)
      go_wp2_with fail
      refine A2.out.mono ?_
      rintro e w2 ⟨rfl, s2, t2⟩
      have e2 : mustM (nextP b.data.toList S 10).2 false 4 = (endJ b.data.toList S) := by unfold endJ; rw [HOK.out]
      rw [e2] at s2
      have H2 := Hid.mk (H1.out.call s2 t2)
      clear s2 t2 A2 H1 e2
      by_cases hne : (endJ b.data.toList S).fl = 0
      · obtain ⟨da, dc, rfl, hby, hblk⟩ := isBytes_ownB H2.out.D
        have hz := H2.out.R
        have ks0 := heap_setCell_same w2 gr 0 _ _ (.int .i64 id) hz
        simp only [List.setIfInBounds_toArray, List.set_cons_zero] at ks0
        have ks1 := heap_setCell_same (w2.setCell ⟨gr, 0, none⟩ (.int .i64 id)) gr 1 _ _ (.bool lo) ks0
        simp only [List.setIfInBounds_toArray, List.set_cons_zero, List.set_cons_succ] at ks1
        have ks2 := heap_setCell_same ((w2.setCell ⟨gr, 0, none⟩ (.int .i64 id)).setCell ⟨gr, 1, none⟩ (.bool lo)) gr 2 _ _ (.bool fa) ks1
        simp only [List.setIfInBounds_toArray, List.set_cons_zero, List.set_cons_succ] at ks2
        have ks3 := heap_setCell_same (((w2.setCell ⟨gr, 0, none⟩ (.int .i64 id)).setCell ⟨gr, 1, none⟩ (.bool lo)).setCell ⟨gr, 2, none⟩ (.bool fa)) gr 3 _ _ (.bool re) ks2
        simp only [List.setIfInBounds_toArray, List.set_cons_zero, List.set_cons_succ] at ks3
        have ks4 := heap_setCell_same ((((w2.setCell ⟨gr, 0, none⟩ (.int .i64 id)).setCell ⟨gr, 1, none⟩ (.bool lo)).setCell ⟨gr, 2, none⟩ (.bool fa)).setCell ⟨gr, 3, none⟩ (.bool re)) gr 4 _ _ (.int .i64 sz) ks3
        simp only [List.setIfInBounds_toArray, List.set_cons_zero, List.set_cons_succ] at ks4
        have ks5 := heap_setCell_same (((((w2.setCell ⟨gr, 0, none⟩ (.int .i64 id)).setCell ⟨gr, 1, none⟩ (.bool lo)).setCell ⟨gr, 2, none⟩ (.bool fa)).setCell ⟨gr, 3, none⟩ (.bool re)).setCell ⟨gr, 4, none⟩ (.int .i64 sz)) gr 5 _ _ (.slice da dt.length dc) ks4
        simp only [List.setIfInBounds_toArray, List.set_cons_zero, List.set_cons_succ] at ks5
        have hT1 : Tch [gr] w2 ((((((w2.setCell ⟨gr, 0, none⟩ (.int .i64 id)).setCell ⟨gr, 1, none⟩ (.bool lo)).setCell ⟨gr, 2, none⟩ (.bool fa)).setCell ⟨gr, 3, none⟩ (.bool re)).setCell ⟨gr, 4, none⟩ (.int .i64 sz)).setCell ⟨gr, 5, none⟩ (.slice da dt.length dc)) := ((((((((Tch.refl [gr] w2).setK (by simp) _ _).setK (by simp) _ _).setK (by simp) _ _).setK (by simp) _ _).setK (by simp) _ _).setK (by simp) _ _))
        have HP := Hid.mk (Tch.below H2.out.bel hT1 (fun g hg => by have := H2.out.ge gr (by simp); simp at hg; omega) H2.out.hB).drew
        have HFIN := Hid.mk (row_drewB ks5)
        have b0 := cell_of_row w2 gr 0 _ _ _ hz
        simp at b0
        have f0 := frozen_of_row w2 gr 0 _ _ hz
        have b1 := cell_of_row w2 gr 1 _ _ _ hz
        simp at b1
        have f1 := frozen_of_row w2 gr 1 _ _ hz
        have b2 := cell_of_row w2 gr 2 _ _ _ hz
        simp at b2
        have f2 := frozen_of_row w2 gr 2 _ _ hz
        have b3 := cell_of_row w2 gr 3 _ _ _ hz
        simp at b3
        have f3 := frozen_of_row w2 gr 3 _ _ hz
        have b4 := cell_of_row w2 gr 4 _ _ _ hz
        simp at b4
        have f4 := frozen_of_row w2 gr 4 _ _ hz
        have b5 := cell_of_row w2 gr 5 _ _ _ hz
        simp at b5
        have f5 := frozen_of_row w2 gr 5 _ _ hz
        have HBY := Hid.mk (isBytes_tchB hby hT1 (fun x hx => by have := hblk x hx; have := H2.out.ge gr (by simp); simp; omega))
        have hf := H2.out.st.f.cell
        rw [hne] at hf
        have ha := H2.out.st.a.cell
        have pA := (H2.out.st.a.other (k := gr) (.int .i64 id) (by have nd := H2.out.nd; simp at nd; omega)).cell
        obtain ⟨c0, c1, c2, c3, c4, c5⟩ := H2.out.cells
        clear hT1 ks0 ks1 ks2 ks3 ks4 ks5 hz hby hblk
        go_wp2_with fail
        go_region
        all_goals focus
          go_wp2_with fail
          refine bodyPost_ret (rb_results _ _ gr _ _ _ rfl rfl rfl HFIN.out rfl) rfl ?_
          exact HR2.out _ _ _ hne HBY.out HP.out
      · have hz := H2.out.R
        have ks0 := heap_setCell_same w2 gr 0 _ _ (.int .i64 0) hz
        simp only [List.setIfInBounds_toArray, List.set_cons_zero] at ks0
        have ks1 := heap_setCell_same (w2.setCell ⟨gr, 0, none⟩ (.int .i64 0)) gr 1 _ _ (.bool false) ks0
        simp only [List.setIfInBounds_toArray, List.set_cons_zero, List.set_cons_succ] at ks1
        have ks2 := heap_setCell_same ((w2.setCell ⟨gr, 0, none⟩ (.int .i64 0)).setCell ⟨gr, 1, none⟩ (.bool false)) gr 2 _ _ (.bool false) ks1
        simp only [List.setIfInBounds_toArray, List.set_cons_zero, List.set_cons_succ] at ks2
        have ks3 := heap_setCell_same (((w2.setCell ⟨gr, 0, none⟩ (.int .i64 0)).setCell ⟨gr, 1, none⟩ (.bool false)).setCell ⟨gr, 2, none⟩ (.bool false)) gr 3 _ _ (.bool false) ks2
        simp only [List.setIfInBounds_toArray, List.set_cons_zero, List.set_cons_succ] at ks3
        have ks4 := heap_setCell_same ((((w2.setCell ⟨gr, 0, none⟩ (.int .i64 0)).setCell ⟨gr, 1, none⟩ (.bool false)).setCell ⟨gr, 2, none⟩ (.bool false)).setCell ⟨gr, 3, none⟩ (.bool false)) gr 4 _ _ (.int .i64 0) ks3
        simp only [List.setIfInBounds_toArray, List.set_cons_zero, List.set_cons_succ] at ks4
        have ks5 := heap_setCell_same (((((w2.setCell ⟨gr, 0, none⟩ (.int .i64 0)).setCell ⟨gr, 1, none⟩ (.bool false)).setCell ⟨gr, 2, none⟩ (.bool false)).setCell ⟨gr, 3, none⟩ (.bool false)).setCell ⟨gr, 4, none⟩ (.int .i64 0)) gr 5 _ _ (.slice none 0 0) ks4
        simp only [List.setIfInBounds_toArray, List.set_cons_zero, List.set_cons_succ] at ks5
        have hT1 : Tch [gr] w2 ((((((w2.setCell ⟨gr, 0, none⟩ (.int .i64 0)).setCell ⟨gr, 1, none⟩ (.bool false)).setCell ⟨gr, 2, none⟩ (.bool false)).setCell ⟨gr, 3, none⟩ (.bool false)).setCell ⟨gr, 4, none⟩ (.int .i64 0)).setCell ⟨gr, 5, none⟩ (.slice none 0 0)) := ((((((((Tch.refl [gr] w2).setK (by simp) _ _).setK (by simp) _ _).setK (by simp) _ _).setK (by simp) _ _).setK (by simp) _ _).setK (by simp) _ _))
        have HP := Hid.mk (Tch.below H2.out.bel hT1 (fun g hg => by have := H2.out.ge gr (by simp); simp at hg; omega) H2.out.hB).drew
        have HFIN := Hid.mk (row_drewB ks5)
        have b0 := cell_of_row w2 gr 0 _ _ _ hz
        simp at b0
        have f0 := frozen_of_row w2 gr 0 _ _ hz
        have b1 := cell_of_row w2 gr 1 _ _ _ hz
        simp at b1
        have f1 := frozen_of_row w2 gr 1 _ _ hz
        have b2 := cell_of_row w2 gr 2 _ _ _ hz
        simp at b2
        have f2 := frozen_of_row w2 gr 2 _ _ hz
        have b3 := cell_of_row w2 gr 3 _ _ _ hz
        simp at b3
        have f3 := frozen_of_row w2 gr 3 _ _ hz
        have b4 := cell_of_row w2 gr 4 _ _ _ hz
        simp at b4
        have f4 := frozen_of_row w2 gr 4 _ _ hz
        have b5 := cell_of_row w2 gr 5 _ _ _ hz
        simp at b5
        have f5 := frozen_of_row w2 gr 5 _ _ hz
        have hf := H2.out.st.f.cell
        have hne' : ((endJ b.data.toList S).fl != 0) = true := by simpa using hne
        have pF := (H2.out.st.f.other (k := gr) (.int .i64 0) (by have nd := H2.out.nd; simp at nd; omega)).cell
        clear hT1 ks0 ks1 ks2 ks3 ks4 ks5 hz
        go_wp2_with fail
        go_region
        all_goals focus
          go_wp2_with fail
          refine bodyPost_ret (rb_results _ _ gr _ _ _ rfl rfl rfl HFIN.out rfl) rfl ?_
          exact HR1.out _ hne HP.out
end Bw
end Go.Proofs.YthdhhmflfdbkhaaGreatDoor

/- What the document's own ReadBits answers of a right row. -/
namespace Go.Proofs.YthdhhmflfdbkhaaGreatDoor
open Go.ChangeShapes Go.WideShapes Go.ChangeAt Go.RowKit
namespace Bw
open Bm Cm
set_option maxHeartbeats 8000000 in
set_option maxRecDepth 100000 in
theorem readBits_any (b : ByteArray) (w : World) (hD : w.cell? ⟨5, 1, none⟩ = some (.int .u8 1)) (h1000 : b.size ≤ 1000) (hb : rowB b.data.toList = true) :
    Calls Tryz.prog 10 #[.string b] w fun e w' =>
      ((jdE b.data.toList).fl ≠ 0 → e = .returned (.tuple #[.agg #[.int .i64 0, .bool false, .bool false, .bool false, .int .i64 0, .slice none 0 0], .int .i64 0, .int .i64 (jdE b.data.toList).fl])) ∧
      ((jdE b.data.toList).fl = 0 → ∃ a len cap, e = .returned (.tuple #[.agg #[.int .i64 (jdA b.data.toList).id, .bool (jdA b.data.toList).lo, .bool (jdB b.data.toList).2, .bool (jdA b.data.toList).re, .int .i64 (jdD b.data.toList).sz, .slice a len cap], .int .i64 (jdE b.data.toList).u, .int .i64 0]) ∧ IsBytes w' a len cap (jdD b.data.toList).dt) ∧ Below w.heap.size w w' := by
  have hDb : ∀ W, Below w.heap.size w W → W.cell? ⟨5, 1, none⟩ = some (.int .u8 1) := fun W hW => cell_kept hW hD
  have hbl : b.data.toList.length = b.size := by simp
  have n4 := num4_le b.data.toList hb (jdB b.data.toList).1
  have iA := nameJ_inv b.data.toList hb
  have iB := formJ_inv b.data.toList hb
  have iC := dj2_inv b.data.toList hb (jdB b.data.toList).2
  have iD := dataJ_inv b.data.toList hb
  have iS := jdS_inv b.data.toList hb
  have hU := jdU b.data.toList hb
  refine calls_of_wp Tryz.func10 rfl ?_
  simp only [Tryz.ntmps10, List.size_toArray, List.length_cons, List.length_nil, Nat.reduceAdd, Nat.reduceSub, Array.replicate_succ, Array.replicate_zero, List.push_toArray, List.append_toArray, List.nil_append, List.cons_append]
  refine rb0 (dropSeq 8 rbBody) _ b w (fun _ _ _ _ _ _ _ _ _ _ _ _ _ _ _ _ _ _ _ _ _ _ _ _ _ _ _ _ _ _ _ _ _ _ _ _ _ _ _ _ _ _ _ _ _ _ _ _ _ _ _ _ _ _ _ _ _ _ _ _ _ _ _ _ _ _ _ _ _ _ _ _ _ _ _ _ _ _ _ _ _ _ _ _ _ _ _ _ _ _ _ _ _ _ _ _ _ _ _ _ _ _ _ _ _ _ _ _ _ _ _ _ _ _ _ _ _ _ _ _ _ _ _ _ _ _ _ _ _ _ _ _ _ _ _ _ _ _ _ _ _ _ _ _ _ _ _ _ _ _ _ _ _ _ _ _ _ _ _ _ _ _ _ _ _ _ _ _ _ _ _ _ _ _ _ _ _ _ _ _ _ _ _ _ _ _ _ _ _ _ _ _ _ _ _ _ _ _ _ _ _ _ _ H1 => ?_) _ _ _ _ _ _ _ _ _ _ _ _ _ _ _ _ _ _ _ _ _ _ _ _ _ _ _ _ _ _ _ _ _ _ _ _ _ _ _ _ _ _ _ _ _ _ _ _ _ _ _ _ _ _ _ _ _ _ _ _ _ _ _ _ _ _ _ _ _ _ _ _ _ _ _ _ _ _ _ _ _ _ _ _ _ _ _ _ _ _ _ _ _ _ _ _ _ _ _ _ _ _ _ _ _ _ _ _ _ _ _ _ _ _ _ _ _ _ _ _ _ _ _ _ _ _ _ _ _ _ _ _ _ _ _ _ _ _ _ _ _ _ _ _ _ _ _ _ _ _ _ _ _ _ _ _ _ _ _ _ _ _ _ _ _ _ _ _ _ _ _ _ _ _ _ _ _ _ _ _ _ _ _ _ _ _ _ _ _ _ _ _ _ _ _ _ _ _ _ _ _ _ _ _ _ _ _ _ _ _ _
  refine rb1 (dropSeq 12 rbBody) _ _ _ _ _ _ _ _ _ _ _ b _ h1000 hb H1 (fun _ _ _ _ _ _ _ _ _ _ _ _ _ _ _ _ _ _ _ _ _ _ _ _ _ _ _ _ _ _ _ _ _ _ _ _ _ _ _ _ _ _ _ _ _ _ _ _ _ _ _ _ _ _ _ _ _ _ _ _ _ _ _ _ _ _ _ _ _ _ _ _ _ _ _ _ _ _ _ _ _ _ _ _ _ _ _ _ _ _ _ _ _ _ _ _ _ _ _ _ _ _ _ _ _ _ _ _ _ _ _ _ _ _ _ _ _ _ _ _ _ _ _ _ _ _ _ _ _ _ _ _ _ _ _ _ _ _ _ _ _ _ _ _ _ _ _ _ _ _ _ _ _ _ _ _ _ _ _ _ _ _ _ _ _ _ _ _ _ _ _ _ _ _ _ _ _ _ _ _ _ _ _ _ _ _ _ _ _ _ _ _ _ _ _ _ _ _ _ _ _ _ _ w2 H2 => ?_) _ _ _ _ _ _ _ _ _ _ _ _ _ _ _ _ _ _ _ _ _ _ _ _ _ _ _ _ _ _ _ _ _ _ _ _ _ _ _ _ _ _ _ _ _ _ _ _ _ _ _ _ _ _ _ _ _ _ _ _ _ _ _ _ _ _ _ _ _ _ _ _ _ _ _ _ _ _ _ _ _ _ _ _ _ _ _ _ _ _ _ _ _ _ _ _ _ _ _ _ _ _ _ _ _ _ _ _ _ _ _ _ _ _ _ _ _ _ _ _ _ _ _ _ _ _ _ _ _ _ _ _ _ _ _ _ _ _ _ _ _ _ _ _ _ _ _ _ _ _ _ _ _ _ _ _ _ _ _ _ _ _ _ _ _ _ _ _ _ _ _ _ _ _ _ _ _ _ _ _ _ _ _ _ _ _ _ _ _ _ _ _ _ _ _ _ _ _ _ _ _ _ _
  refine rb2 (dropSeq 13 rbBody) _ _ _ _ _ _ _ _ _ _ _ b _ _ _ _ _ h1000 hb iA H2 (fun _ _ _ _ _ _ _ _ _ _ _ _ _ _ _ _ _ _ _ _ _ _ _ _ _ _ _ _ _ _ _ _ _ _ _ _ _ _ _ _ _ _ _ _ _ _ _ _ _ _ _ _ _ _ _ _ _ _ _ _ _ _ _ _ _ _ _ _ _ _ _ _ _ _ _ _ _ _ _ _ _ _ _ _ _ _ _ _ _ _ _ _ _ _ _ _ _ _ _ _ _ _ _ _ _ _ _ _ _ _ _ _ _ _ _ _ _ _ _ _ _ _ _ _ _ _ _ _ _ _ _ _ _ _ _ _ _ _ _ _ _ _ _ _ _ _ _ _ _ _ _ _ _ _ _ _ _ _ _ _ _ _ _ _ _ _ _ _ _ _ _ _ _ _ _ _ _ _ _ _ _ _ _ _ _ _ _ _ _ _ _ _ _ _ _ _ _ _ _ _ _ _ _ w3 H3 => ?_) _ _ _ _ _ _ _ _ _ _ _ _ _ _ _ _ _ _ _ _ _ _ _ _ _ _ _ _ _ _ _ _ _ _ _ _ _ _ _ _ _ _ _ _ _ _ _ _ _ _ _ _ _ _ _ _ _ _ _ _ _ _ _ _ _ _ _ _ _ _ _ _ _ _ _ _ _ _ _ _ _ _ _ _ _ _ _ _ _ _ _ _ _ _ _ _ _ _ _ _ _ _ _ _ _ _ _ _ _ _ _ _ _ _ _ _ _ _ _ _ _ _ _ _ _ _ _ _ _ _ _ _ _ _ _ _ _ _ _ _ _ _ _ _ _ _ _ _ _ _ _ _ _ _ _ _ _ _ _ _ _ _ _ _ _ _ _ _ _ _ _ _ _ _ _ _ _ _ _ _ _ _ _ _ _ _ _ _ _ _ _ _ _ _ _ _ _ _ _ _ _ _ _
  refine rb3 (dropSeq 15 rbBody) _ _ _ _ _ _ _ _ _ _ _ b _ _ _ _ _ _ h1000 hb iB H3 (fun _ _ _ _ _ _ _ _ _ _ _ _ _ _ _ _ _ _ _ _ _ _ _ _ _ _ _ _ _ _ _ _ _ _ _ _ _ _ _ _ _ _ _ _ _ _ _ _ _ _ _ _ _ _ _ _ _ _ _ _ _ _ _ _ _ _ _ _ _ _ _ _ _ _ _ _ _ _ _ _ _ _ _ _ _ _ _ _ _ _ _ _ _ _ _ _ _ _ _ _ _ _ _ _ _ _ _ _ _ _ _ _ _ _ _ _ _ _ _ _ _ _ _ _ _ _ _ _ _ _ _ _ _ _ _ _ _ _ _ _ _ _ _ _ _ _ _ _ _ _ _ _ _ _ _ _ _ _ _ _ _ _ _ _ _ _ _ _ _ _ _ _ _ _ _ _ _ _ _ _ _ _ _ _ _ _ _ _ _ _ _ _ _ _ _ _ _ _ _ _ _ _ w4 H4 => ?_) _ _ _ _ _ _ _ _ _ _ _ _ _ _ _ _ _ _ _ _ _ _ _ _ _ _ _ _ _ _ _ _ _ _ _ _ _ _ _ _ _ _ _ _ _ _ _ _ _ _ _ _ _ _ _ _ _ _ _ _ _ _ _ _ _ _ _ _ _ _ _ _ _ _ _ _ _ _ _ _ _ _ _ _ _ _ _ _ _ _ _ _ _ _ _ _ _ _ _ _ _ _ _ _ _ _ _ _ _ _ _ _ _ _ _ _ _ _ _ _ _ _ _ _ _ _ _ _ _ _ _ _ _ _ _ _ _ _ _ _ _ _ _ _ _ _ _ _ _ _ _ _ _ _ _ _ _ _ _ _ _ _ _ _ _ _ _ _ _ _ _ _ _ _ _ _ _ _ _ _ _ _ _ _ _ _ _ _ _ _ _ _ _ _ _ _ _ _ _ _ _ _ _
  refine rb3b (dropSeq 16 rbBody) _ _ _ _ _ _ _ _ _ _ _ b _ _ _ _ _ _ _ h1000 hb iC n4 H4 (fun _ _ _ _ _ _ _ _ _ _ _ _ _ _ _ _ _ _ _ _ _ _ _ _ _ _ _ _ _ _ _ _ _ _ _ _ _ _ _ _ _ _ _ _ _ _ _ _ _ _ _ _ _ _ _ _ _ _ _ _ _ _ _ _ _ _ _ _ _ _ _ _ _ _ _ _ _ _ _ _ _ _ _ _ _ _ _ _ _ _ _ _ _ _ _ _ _ _ _ _ _ _ _ _ _ _ _ _ _ _ _ _ _ _ _ _ _ _ _ _ _ _ _ _ _ _ _ _ _ _ _ _ _ _ _ _ _ _ _ _ _ _ _ _ _ _ _ _ _ _ _ _ _ _ _ _ _ _ _ _ _ _ _ _ _ _ _ _ _ _ _ _ _ _ _ _ _ _ _ _ _ _ _ _ _ _ _ _ _ _ _ _ _ _ _ _ _ _ _ _ _ _ _ w5 H5 => ?_) _ _ _ _ _ _ _ _ _ _ _ _ _ _ _ _ _ _ _ _ _ _ _ _ _ _ _ _ _ _ _ _ _ _ _ _ _ _ _ _ _ _ _ _ _ _ _ _ _ _ _ _ _ _ _ _ _ _ _ _ _ _ _ _ _ _ _ _ _ _ _ _ _ _ _ _ _ _ _ _ _ _ _ _ _ _ _ _ _ _ _ _ _ _ _ _ _ _ _ _ _ _ _ _ _ _ _ _ _ _ _ _ _ _ _ _ _ _ _ _ _ _ _ _ _ _ _ _ _ _ _ _ _ _ _ _ _ _ _ _ _ _ _ _ _ _ _ _ _ _ _ _ _ _ _ _ _ _ _ _ _ _ _ _ _ _ _ _ _ _ _ _ _ _ _ _ _ _ _ _ _ _ _ _ _ _ _ _ _ _ _ _ _ _ _ _ _ _ _ _ _ _
  obtain ⟨v, H5⟩ := H5
  have e1 : (if (jdA b.data.toList).re = true then dj2 b.data.toList (jdB b.data.toList).1 (jdB b.data.toList).2 else (dlJ b.data.toList (dj2 b.data.toList (jdB b.data.toList).1 (jdB b.data.toList).2) (sizesL.getD (numJ b.data.toList (jdB b.data.toList).1 4).1 0)).1) = (jdD b.data.toList).S := by unfold jdD dataJ; split <;> rfl
  have e2 : (if (jdA b.data.toList).re = true then ((numJ b.data.toList (jdB b.data.toList).1 4).1 : Int) else 0) = ((jdD b.data.toList).sz : Int) := by unfold jdD dataJ; split <;> rfl
  have e3 : (if (jdA b.data.toList).re = true then [] else (dlJ b.data.toList (dj2 b.data.toList (jdB b.data.toList).1 (jdB b.data.toList).2) (sizesL.getD (numJ b.data.toList (jdB b.data.toList).1 4).1 0)).2) = (jdD b.data.toList).dt := by unfold jdD dataJ; split <;> rfl
  have eA : nameJ b.data.toList ⟨0, 0, []⟩ = jdA b.data.toList := rfl
  rw [eA] at H5
  have eB : formJ b.data.toList (jdA b.data.toList).S (jdA b.data.toList).lo (jdA b.data.toList).re = jdB b.data.toList := rfl
  rw [eB] at H5
  rw [e1, e2, e3] at H5
  refine rb4 (dropSeq 18 rbBody) _ _ _ _ _ _ _ _ _ _ _ b _ _ _ _ _ _ _ _ _ h1000 hb iD hDb H5 (fun _ _ _ _ _ _ _ _ _ _ _ _ _ _ _ _ _ _ _ _ _ _ _ _ _ _ _ _ _ _ _ _ _ _ _ _ _ _ _ _ _ _ _ _ _ _ _ _ _ _ _ _ _ _ _ _ _ _ _ _ _ _ _ _ _ _ _ _ _ _ _ _ _ _ _ _ _ _ _ _ _ _ _ _ _ _ _ _ _ _ _ _ _ _ _ _ _ _ _ _ _ _ _ _ _ _ _ _ _ _ _ _ _ _ _ _ _ _ _ _ _ _ _ _ _ _ _ _ _ _ _ _ _ _ _ _ _ _ _ _ _ _ _ _ _ _ _ _ _ _ _ _ _ _ _ _ _ _ _ _ _ _ _ _ _ _ _ _ _ _ _ _ _ _ _ _ _ _ _ _ _ _ _ _ _ _ _ _ _ _ _ _ _ _ _ _ _ _ _ _ _ _ w6 H6 => ?_) _ _ _ _ _ _ _ _ _ _ _ _ _ _ _ _ _ _ _ _ _ _ _ _ _ _ _ _ _ _ _ _ _ _ _ _ _ _ _ _ _ _ _ _ _ _ _ _ _ _ _ _ _ _ _ _ _ _ _ _ _ _ _ _ _ _ _ _ _ _ _ _ _ _ _ _ _ _ _ _ _ _ _ _ _ _ _ _ _ _ _ _ _ _ _ _ _ _ _ _ _ _ _ _ _ _ _ _ _ _ _ _ _ _ _ _ _ _ _ _ _ _ _ _ _ _ _ _ _ _ _ _ _ _ _ _ _ _ _ _ _ _ _ _ _ _ _ _ _ _ _ _ _ _ _ _ _ _ _ _ _ _ _ _ _ _ _ _ _ _ _ _ _ _ _ _ _ _ _ _ _ _ _ _ _ _ _ _ _ _ _ _ _ _ _ _ _ _ _ _ _ _ _
  have e6 : (if (jdD b.data.toList).S.fl = 0 then (if (jdB b.data.toList).2 then (jdD b.data.toList).S else sumJ b.data.toList (jdD b.data.toList).S) else (jdD b.data.toList).S) = jd4 b.data.toList := rfl
  rw [e6] at H6
  refine rb5 (dropSeq 19 rbBody) _ _ _ _ _ _ _ _ _ _ _ b _ _ _ _ _ _ _ _ _ h1000 hb ?_ hDb H6 (fun _ _ _ _ _ _ _ _ _ _ _ _ _ _ _ _ _ _ _ _ _ _ _ _ _ _ _ _ _ _ _ _ _ _ _ _ _ _ _ _ _ _ _ _ _ _ _ _ _ _ _ _ _ _ _ _ _ _ _ _ _ _ _ _ _ _ _ _ _ _ _ _ _ _ _ _ _ _ _ _ _ _ _ _ _ _ _ _ _ _ _ _ _ _ _ _ _ _ _ _ _ _ _ _ _ _ _ _ _ _ _ _ _ _ _ _ _ _ _ _ _ _ _ _ _ _ _ _ _ _ _ _ _ _ _ _ _ _ _ _ _ _ _ _ _ _ _ _ _ _ _ _ _ _ _ _ _ _ _ _ _ _ _ _ _ _ _ _ _ _ _ _ _ _ _ _ _ _ _ _ _ _ _ _ _ _ _ _ _ _ _ _ _ _ _ _ _ _ _ _ _ _ w7 H7 => ?_) _ _ _ _ _ _ _ _ _ _ _ _ _ _ _ _ _ _ _ _ _ _ _ _ _ _ _ _ _ _ _ _ _ _ _ _ _ _ _ _ _ _ _ _ _ _ _ _ _ _ _ _ _ _ _ _ _ _ _ _ _ _ _ _ _ _ _ _ _ _ _ _ _ _ _ _ _ _ _ _ _ _ _ _ _ _ _ _ _ _ _ _ _ _ _ _ _ _ _ _ _ _ _ _ _ _ _ _ _ _ _ _ _ _ _ _ _ _ _ _ _ _ _ _ _ _ _ _ _ _ _ _ _ _ _ _ _ _ _ _ _ _ _ _ _ _ _ _ _ _ _ _ _ _ _ _ _ _ _ _ _ _ _ _ _ _ _ _ _ _ _ _ _ _ _ _ _ _ _ _ _ _ _ _ _ _ _ _ _ _ _ _ _ _ _ _ _ _ _ _ _ _
  · intro hz hf
    have hd : (jdD b.data.toList).S.fl = 0 := by
      rcases Classical.em ((jdD b.data.toList).S.fl = 0) with x | x
      · exact x
      · unfold jd4 at hz; rw [if_neg x] at hz; exact hz
    have e4 : jd4 b.data.toList = (jdD b.data.toList).S := by unfold jd4; rw [if_pos hd, hf]; rfl
    rw [e4]
    obtain ⟨u1, u2, u3, u4, u5⟩ := hU hd
    exact ⟨u1, u2, by omega, u4, u5⟩
  rw [jd4_S] at H7
  refine rb6 _ _ _ _ _ _ _ _ _ _ _ b _ _ _ _ _ _ _ _ _ h1000 hb iS H7 ?_ ?_ _ _ _ _ _ _ _ _ _ _ _ _ _ _ _ _ _ _ _ _ _ _ _ _ _ _ _ _ _ _ _ _ _ _ _ _ _ _ _ _ _ _ _ _ _ _ _ _ _ _ _ _ _ _ _ _ _ _ _ _ _ _ _ _ _ _ _ _ _ _ _ _ _ _ _ _ _ _ _ _ _ _ _ _ _ _ _ _ _ _ _ _ _ _ _ _ _ _ _ _ _ _ _ _ _ _ _ _ _ _ _ _ _ _ _ _ _ _ _ _ _ _ _ _ _ _ _ _ _ _ _ _ _ _ _ _ _ _ _ _ _ _ _ _ _ _ _ _ _ _ _ _ _ _ _ _ _ _ _ _ _ _ _ _ _ _ _ _ _ _ _ _ _ _ _ _ _ _ _ _ _ _ _ _ _ _ _ _ _ _ _ _ _ _ _ _ _ _ _ _ _ _
  · intro w' h1 h2
    exact ⟨fun _ => rfl, fun h => absurd h h1, h2⟩
  · intro w' a cap h1 h2 h3
    exact ⟨fun h => absurd h1 h, fun _ => ⟨a, _, cap, rfl, h2⟩, h3⟩
end Bw
end Go.Proofs.YthdhhmflfdbkhaaGreatDoor

/- The law WireNoise: what is read. -/
namespace Go.Proofs.YthdhhmflfdbkhaaGreatDoor
open Go.ChangeShapes Go.WideShapes Go.ChangeAt Go.RowKit
namespace Bw
open Bm Cm
theorem rdUN (b : List UInt8) (hb : rowB b = true) (h : (rdD b).S.fl = 0) : 0 < (rdD b).S.u ∧ (rdD b).S.u ≤ b.length := by
  have iA := name_inv hb (Inv.start b) Mst.start
  have iB := form_inv hb iA.1 iA.2.1 (rdA b).lo (rdA b).re
  have iD := data_inv hb iB.1 iB.2.1 (rdB b).2 (rdA b).re
  have h1 : Inv b (rdD b).S (0 + 33 + 4 + 516) := iD.1
  have h2 : Mst (rdD b).S := iD.2.1
  have h3 : Fed (rdD b).S := iD.2.2
  have := h3 h
  unfold Mst at h2
  have a1 := h1.ou
  have a3 := h1.u
  exact ⟨by omega, a3⟩
set_option maxHeartbeats 16000000 in
set_option maxRecDepth 100000 in
theorem wnoise_no (hCF : CheckF) (f : Fr) (a : Option Addr) (len cap : Nat) (p : Option Addr) (n c : Nat) (w : World) (hS : SizesAt w) (hR : RulesAt w) (hD : w.cell? ⟨5, 1, none⟩ = some (.int .u8 1)) (hby : IsBytes w a len cap f.dt) (zs : List Int) (hE : frE f = 0) (hn : n ≤ 1000) (hz : NumsA w p n zs) (hin : inAll (bitsL f).length zs = true) (hr : (rdE (turnK (bitsL f) zs zs.length)).fl ≠ 0) :
    Calls Tryz.prog 5 #[frameV f.id f.lo f.fa f.re f.sz a len cap, .slice p n c] w fun e w' => e = .returned (.bool true) ∧ Below w.heap.size w w' := by
  have hB := below_box w f.id f.lo f.fa f.re f.sz a len cap
  have hK := FrAt.box w f.id f.lo f.fa f.re f.sz a len cap
  have hY := isBytes_below hby hB
  have a1 := noise_no f a len cap p n c zs _ (hS.kept hB) (hR.kept hB) hY hE hn (hz.kept hB) hin hr
  have hl1 := bitsL_len f
  have hl2 := preL_len f hE
  have HN := Hid.mk hz
  have HIN := Hid.mk hin
  have HLEN := Hid.mk (show (bitsL f).length ≤ 900 by omega)
  have HA5 := Hid.mk (fun W hW hB => bitsOf_any f a len cap W hW hE hB)
  unfold frameV at HA5
  have hrow := turnK_row (bitsL f) zs (bitsL_row f) zs.length
  have hrl := turnK_len (bitsL f) zs zs.length
  obtain ⟨hsf, hsu⟩ := read_same _ hrow (rdUN _ hrow)
  have a4 := fun (RT : ByteArray) (hRT : RT.data.toList = turnK (bitsL f) zs zs.length) W hW => readBits_any RT W hW (by
    have e : RT.data.toList.length = RT.size := by simp
    rw [← e, hRT, hrl]; omega) (by rw [hRT]; exact hrow)
  have a4' : ∀ (RT : ByteArray), RT.data.toList = turnK (bitsL f) zs zs.length → ∀ W, W.cell? ⟨5, 1, none⟩ = some (.int .u8 1) → Calls Tryz.prog 10 #[.string RT] W fun e w' => e = .returned (.tuple #[frameV 0 false false false 0 none 0 0, .int .i64 0, .int .i64 (rdE (turnK (bitsL f) zs zs.length)).fl]) ∧ Below W.heap.size W w' := fun RT hRT W hW => (a4 RT hRT W hW).mono (fun _ _ h => by
    rw [hRT] at h
    rw [hsf] at hr ⊢
    exact ⟨h.1 hr, h.2.2⟩)
  have a5 := fun W => sameFrame_true ⟨0, false, false, false, 0, []⟩ none none 0 0 0 0 W (nilBytesN W) (nilBytesN W)
  simp only at a5
  generalize (rdE (turnK (bitsL f) zs zs.length)).fl = ce at *
  have HA6 := Hid.mk a4'
  have HA7 := Hid.mk a5
  unfold frameV at HA6 HA7
  clear a4 a4' a5 hrow hrl hsf hsu hr
  have HA1 := Hid.mk a1
  have HA2 := Hid.mk (fun W hW => hCF.fr f a len cap W hW)
  have HA3 := Hid.mk (fun W h1 h2 => wired_any W h1 h2)
  have HA4 := Hid.mk (fun W => noFrameN W)
  have HB0 := Hid.mk hB
  have HK0 := Hid.mk hK
  have HY0 := Hid.mk hY
  have HS := Hid.mk hS
  have HR := Hid.mk hR
  have HD := Hid.mk hD
  unfold frameC at HA1 HB0 HK0 HY0
  unfold frameV at HA1 HA2 ⊢
  clear a1 hB hK hY hS hR hby hD hCF
  rw [hE] at HA2
  have hn2 : (n : Int) ≤ 1000 := by omega
  obtain ⟨BT, hBT⟩ : ∃ BT : ByteArray, BT = ⟨(bitsL f).toArray⟩ := ⟨_, rfl⟩
  rw [← hBT] at HA5
  have HBT := Hid.mk (show BT.data.toList = bitsL f by rw [hBT])
  clear hE hz hin hl1 hl2 hBT
  go_enter Tryz.func5, Tryz.ntmps5
  obtain ⟨m0, m1, m2, m3, m4, m5⟩ := HK0.out
  go_wp2_with fail
  refine HA1.out.mono ?_
  rintro e w1 ⟨rfl, hb1⟩
  have hbx : Below w1.heap.size w1 (w1.alloc (.cells #[.int .i64 0, .bool false, .bool false, .bool false, .int .i64 0, .slice none 0 0] 24)) := (Below.refl _ _).alloc (Nat.le_refl _) _
  have hb12 := bl2 hb1 hbx
  have HG2 := Hid.mk (FrAt.box w1 0 false false false 0 none 0 0)
  unfold frameC at HG2
  have HB2 := Hid.mk (bl2 HB0.out hb12)
  have HK2 := Hid.mk (HK0.out.kept hb12)
  have HY2 := Hid.mk (isBytes_below HY0.out hb12)
  obtain ⟨k0, k1, k2, k3, k4, k5⟩ := HK2.out
  clear hb1 hbx hb12 HB0 HK0 HY0 m0 m1 m2 m3 m4 m5
  go_wp2_with fail
  refine (HA2.out _ HY2.out).mono ?_
  rintro e w3 ⟨rfl, hb3⟩
  have HB3 := Hid.mk (bl2 HB2.out hb3)
  have HG3 := Hid.mk (HG2.out.kept hb3)
  have HK3 := Hid.mk (HK2.out.kept hb3)
  have HY3 := Hid.mk (isBytes_below HY2.out hb3)
  clear hb3 HB2 HG2 HK2 HY2 k0 k1 k2 k3 k4 k5
  obtain ⟨k0, k1, k2, k3, k4, k5⟩ := HK3.out
  go_wp2_with fail
  refine (HA5.out _ (cell_kept HB3.out HD.out) HY3.out).mono ?_
  rintro e w4 ⟨rfl, hb4⟩
  have HB4 := Hid.mk (bl2 HB3.out hb4)
  have HG4 := Hid.mk (HG3.out.kept hb4)
  clear hb4 HB3 HG3 HK3 HY3 k0 k1 k2 k3 k4 k5
  go_wp2_with fail
  go_loopw [7, 8, 35] (fun b r i wr => ∃ k : Nat, k ≤ n ∧ i = .int .i64 k ∧ b = .int .i64 0 ∧ (∃ RT : ByteArray, r = .string RT ∧ Hid (RT.data.toList = turnK (bitsL f) zs k)) ∧ Hid (inK (bitsL f).length zs k) ∧ Hid (Below w4.heap.size w4 wr)) (fun _ _ i _ => n - (intOf i).toNat)
  case atStart => exact ⟨0, Nat.zero_le _, rfl, rfl, ⟨BT, rfl, HBT⟩, Hid.mk (fun j hj => absurd hj (Nat.not_lt_zero _)), Hid.mk (Below.refl _ _)⟩
  case round =>
    obtain ⟨k, hk, rfl, rfl, ⟨RT, rfl, HRT⟩, HI, HB⟩ := hrel
    have HBw := Hid.mk (bl2 HB4.out HB.out)
    have HRS := Hid.mk (show RT.size = (bitsL f).length by rw [ba_size HRT.out, turnK_len])
    have hR9 : RT.size ≤ 900 := by rw [HRS.out]; exact HLEN.out
    by_cases hlt : k < n
    · have hlt' : (k : Int) < (n : Int) := by omega
      have hkl : k < zs.length := by rw [HN.out.1]; exact hlt
      cases p with
      | none => exact absurd (HN.out.2.1 rfl) (by omega)
      | some x =>
        have cz := cell_kept HBw.out (HN.out.2.2 x rfl k hlt)
        by_cases hzi : 0 ≤ zs.getD k 0 ∧ zs.getD k 0 < ((bitsL f).length : Int)
        · obtain ⟨i, hi⟩ : ∃ i : Nat, zs.getD k 0 = (i : Int) := ⟨(zs.getD k 0).toNat, by omega⟩
          have HIn := Hid.mk (inK_next HI.out hzi.1 hzi.2)
          rw [hi] at cz hzi
          have hiR : i < RT.size := by rw [HRS.out]; omega
          have hiR' : (i : Int) < (RT.size : Int) := by omega
          have hch := at_getD RT i hiR
          obtain ⟨ch, hchE⟩ : ∃ ch, ch = RT[i] := ⟨_, rfl⟩
          have htn : RT.data.toList.take i ++ otb ch :: RT.data.toList.drop (i + 1) = turnK (bitsL f) zs (k + 1) := by
            rw [turnK, hi, Int.toNat_natCast, ← HRT.out, set_parts _ _ _ (by simpa using hiR), hchE, hch]
          have HTN := Hid.mk htn
          have hsl1 : ∀ W, (Instr.slice 9 (.string RT) none (some (.int .i64 (i : Int))) none).run Tryz.prog W = .ok (.string (RT.extract 0 i)) W := by
            intro W
            rw [run_slice_string_h W _ RT Tryz.underlying9 .i64 _ (by omega) (by omega), Int.toNat_natCast]
          have hsl2 : ∀ W, (Instr.slice 9 (.string RT) (some (.int .i64 (IntKind.i64.wrap ((i : Int) + 1)))) none none).run Tryz.prog W = .ok (.string (RT.extract (i + 1) RT.size)) W := by
            intro W
            rw [show IntKind.i64.wrap ((i : Int) + 1) = ((i + 1 : Nat) : Int) by rw [IntKind.wrap_i64]; omega]
            rw [run_slice_string_l W _ RT Tryz.underlying9 .i64 _ (by omega) (by omega), Int.toNat_natCast]
          have hcv := convert_lit (wr.alloc (.cells #[.int .u8 (otb ch).toNat] 5)).drew wr.heap.size (otb ch) (heap_alloc_new wr _)
          have HX1 := Hid.mk (show (RT.extract 0 i).data.toList = RT.data.toList.take i by
            have := extract_list RT 0 i
            rw [Nat.zero_add] at this
            rw [this, List.drop_zero])
          have HX2 := Hid.mk (show (RT.extract (i + 1) RT.size).data.toList = RT.data.toList.drop (i + 1) by
            have := extract_list RT (i + 1) (RT.size - (i + 1))
            rw [show i + 1 + (RT.size - (i + 1)) = RT.size by omega] at this
            rw [this]
            exact List.take_of_length_le (by simp))
          have hs1 : (RT.extract 0 i).size ≤ 900 := by rw [ByteArray.size_extract]; omega
          have hs2 : (RT.extract (i + 1) RT.size).size ≤ 900 := by rw [ByteArray.size_extract]; omega
          generalize RT.extract 0 i = E1 at *
          generalize RT.extract (i + 1) RT.size = E2 at *
          have HB5 := Hid.mk (show Below w4.heap.size w4 ((wr.alloc (.cells #[.int .u8 (otb ch).toNat] 5)).drew) from (HB.out.alloc HB.out.size _).drew)
          have HCH := Hid.mk hchE
          clear htn hzi hi hkl hch hchE
          go_wp2_with fail
          go_region_with (go_at_call 20; rw [← HCH.out]; refine (otherR_any ch _).mono ?_; rintro e w2 ⟨rfl, hw2⟩; subst hw2)
          all_goals focus
            generalize hX : E1 ++ ⟨#[otb ch]⟩ ++ E2 = X
            have HXl := Hid.mk (show X.data.toList = turnK (bitsL f) zs (k + 1) by
              rw [← hX, ba_cat, ba_cat, HX1.out, HX2.out, ← HTN.out]; simp)
            clear hX hsl1 hsl2 hcv
            go_wp2_with fail
            go_roundw
            case rel => exact ⟨k + 1, by omega, by go_num, rfl, ⟨X, rfl, HXl⟩, HIn, HB5⟩
            case measure => simp [intOf]; omega
        · exact absurd HIN.out (by rw [inAll_not hkl hzi]; decide)
    · have e : k = zs.length := by have := HN.out.1; omega
      have HG5 := Hid.mk (HG4.out.kept HB.out)
      have HT := HRT.out
      rw [e] at HT
      have HA8 := Hid.mk (HA6.out RT HT)
      clear HT HI HRT
      go_wp2_with fail
      refine (HA3.out _ (HS.out.kept HBw.out) (HR.out.kept HBw.out)).mono ?_
      rintro e w6 ⟨rfl, hb6⟩
      have HB6 := Hid.mk (bl2 HBw.out hb6)
      have HG6 := Hid.mk (HG5.out.kept hb6)
      clear hb6
      go_wp2_with fail
      refine (HA8.out _ (cell_kept HB6.out HD.out)).mono ?_
      rintro e w7 ⟨rfl, hb7⟩
      have hbx : Below w7.heap.size w7 (w7.alloc (.cells #[.int .i64 0, .bool false, .bool false, .bool false, .int .i64 0, .slice none 0 0] 24)) := (Below.refl _ _).alloc (Nat.le_refl _) _
      have hb78 := bl2 hb7 hbx
      obtain ⟨n0, n1, n2, n3, n4, n5⟩ := HG6.out.kept hb78
      obtain ⟨r0, r1, r2, r3, r4, r5⟩ := FrAt.box w7 0 false false false 0 none 0 0
      unfold frameC at r0 r1 r2 r3 r4 r5
      have HB8 := Hid.mk (bl2 HB6.out hb78)
      clear hb7 hbx hb78
      go_wp2_with fail
      refine (HA7.out _).mono ?_
      rintro e w9 ⟨rfl, hb9⟩
      have HB9 := Hid.mk (bl2 HB8.out hb9)
      clear hb9 n0 n1 n2 n3 n4 n5 r0 r1 r2 r3 r4 r5
      go_wp2_with fail
      go_ret
      exact ⟨rfl, HB9.out⟩
set_option maxHeartbeats 16000000 in
set_option maxRecDepth 100000 in
theorem wnoise_ok (hCF : CheckF) (f : Fr) (a : Option Addr) (len cap : Nat) (p : Option Addr) (n c : Nat) (w : World) (hS : SizesAt w) (hR : RulesAt w) (hD : w.cell? ⟨5, 1, none⟩ = some (.int .u8 1)) (hby : IsBytes w a len cap f.dt) (zs : List Int) (hE : frE f = 0) (hn : n ≤ 1000) (hz : NumsA w p n zs) (hin : inAll (bitsL f).length zs = true) (hr : (rdE (turnK (bitsL f) zs zs.length)).fl = 0) :
    Calls Tryz.prog 5 #[frameV f.id f.lo f.fa f.re f.sz a len cap, .slice p n c] w fun e w' => e = .returned (.bool true) ∧ Below w.heap.size w w' := by
  have hB := below_box w f.id f.lo f.fa f.re f.sz a len cap
  have hK := FrAt.box w f.id f.lo f.fa f.re f.sz a len cap
  have hY := isBytes_below hby hB
  have a1 := noise_ok f a len cap p n c zs _ (hS.kept hB) (hR.kept hB) hY hE hn (hz.kept hB) hin hr
  have hl1 := bitsL_len f
  have hl2 := preL_len f hE
  have HN := Hid.mk hz
  have HIN := Hid.mk hin
  have HLEN := Hid.mk (show (bitsL f).length ≤ 900 by omega)
  have HA5 := Hid.mk (fun W hW hB => bitsOf_any f a len cap W hW hE hB)
  unfold frameV at HA5
  have hrow := turnK_row (bitsL f) zs (bitsL_row f) zs.length
  have hrl := turnK_len (bitsL f) zs zs.length
  obtain ⟨hsf, hsu⟩ := read_same _ hrow (rdUN _ hrow)
  have a4 := fun (RT : ByteArray) (hRT : RT.data.toList = turnK (bitsL f) zs zs.length) W hW => readBits_any RT W hW (by
    have e : RT.data.toList.length = RT.size := by simp
    rw [← e, hRT, hrl]; omega) (by rw [hRT]; exact hrow)
  obtain ⟨hu, hF⟩ := hsu hr
  have a4' : ∀ (RT : ByteArray), RT.data.toList = turnK (bitsL f) zs zs.length → ∀ W, W.cell? ⟨5, 1, none⟩ = some (.int .u8 1) → Calls Tryz.prog 10 #[.string RT] W fun e w' => ∃ a len cap, e = .returned (.tuple #[frameV (rdF (turnK (bitsL f) zs zs.length)).id (rdF (turnK (bitsL f) zs zs.length)).lo (rdF (turnK (bitsL f) zs zs.length)).fa (rdF (turnK (bitsL f) zs zs.length)).re (rdF (turnK (bitsL f) zs zs.length)).sz a len cap, .int .i64 (rdE (turnK (bitsL f) zs zs.length)).u, .int .i64 0]) ∧ IsBytes w' a len cap (rdF (turnK (bitsL f) zs zs.length)).dt ∧ Below W.heap.size W w' := fun RT hRT W hW => (a4 RT hRT W hW).mono (fun _ _ h => by
    rw [hRT] at h
    obtain ⟨a, len, cap, h1, h2⟩ := h.2.1 (by rw [← hsf]; exact hr)
    refine ⟨a, len, cap, ?_, ?_, h.2.2⟩
    · rw [hF, hu]; exact h1
    · rw [hF]; exact h2)
  have a5 := fun a1 n1 c1 a2 n2 c2 W h1 h2 => sameFrame_true (rdF (turnK (bitsL f) zs zs.length)) a1 a2 n1 c1 n2 c2 W h1 h2
  generalize rdF (turnK (bitsL f) zs zs.length) = G at *
  generalize ((rdE (turnK (bitsL f) zs zs.length)).u : Int) = cu at *
  obtain ⟨Gid, Glo, Gfa, Gre, Gsz, Gdt⟩ := G
  simp only at a1 a4' a5
  have HA6 := Hid.mk a4'
  have HA7 := Hid.mk a5
  unfold frameV at HA6 HA7
  clear a4 a4' a5 hrow hrl hsf hsu hr
  clear hu hF
  have HA1 := Hid.mk a1
  have HA2 := Hid.mk (fun W hW => hCF.fr f a len cap W hW)
  have HA3 := Hid.mk (fun W h1 h2 => wired_any W h1 h2)
  have HA4 := Hid.mk (fun W => noFrameN W)
  have HB0 := Hid.mk hB
  have HK0 := Hid.mk hK
  have HY0 := Hid.mk hY
  have HS := Hid.mk hS
  have HR := Hid.mk hR
  have HD := Hid.mk hD
  unfold frameC at HA1 HB0 HK0 HY0
  unfold frameV at HA1 HA2 ⊢
  clear a1 hB hK hY hS hR hby hD hCF
  rw [hE] at HA2
  have hn2 : (n : Int) ≤ 1000 := by omega
  obtain ⟨BT, hBT⟩ : ∃ BT : ByteArray, BT = ⟨(bitsL f).toArray⟩ := ⟨_, rfl⟩
  rw [← hBT] at HA5
  have HBT := Hid.mk (show BT.data.toList = bitsL f by rw [hBT])
  clear hE hz hin hl1 hl2 hBT
  go_enter Tryz.func5, Tryz.ntmps5
  obtain ⟨m0, m1, m2, m3, m4, m5⟩ := HK0.out
  go_wp2_with fail
  refine HA1.out.mono ?_
  rintro e w1 ⟨ga, gn, gc, rfl, hyg, hb1⟩
  have hbx : Below w1.heap.size w1 (w1.alloc (.cells #[.int .i64 Gid, .bool Glo, .bool Gfa, .bool Gre, .int .i64 Gsz, .slice ga gn gc] 24)) := (Below.refl _ _).alloc (Nat.le_refl _) _
  have hb12 := bl2 hb1 hbx
  have HG2 := Hid.mk (FrAt.box w1 Gid Glo Gfa Gre Gsz ga gn gc)
  unfold frameC at HG2
  have HB2 := Hid.mk (bl2 HB0.out hb12)
  have HK2 := Hid.mk (HK0.out.kept hb12)
  have HY2 := Hid.mk (isBytes_below HY0.out hb12)
  have HYG2 := Hid.mk (isBytes_below hyg hbx)
  clear hyg
  obtain ⟨k0, k1, k2, k3, k4, k5⟩ := HK2.out
  clear hb1 hbx hb12 HB0 HK0 HY0 m0 m1 m2 m3 m4 m5
  go_wp2_with fail
  refine (HA2.out _ HY2.out).mono ?_
  rintro e w3 ⟨rfl, hb3⟩
  have HB3 := Hid.mk (bl2 HB2.out hb3)
  have HG3 := Hid.mk (HG2.out.kept hb3)
  have HK3 := Hid.mk (HK2.out.kept hb3)
  have HY3 := Hid.mk (isBytes_below HY2.out hb3)
  have HYG3 := Hid.mk (isBytes_below HYG2.out hb3)
  clear HYG2
  clear hb3 HB2 HG2 HK2 HY2 k0 k1 k2 k3 k4 k5
  obtain ⟨k0, k1, k2, k3, k4, k5⟩ := HK3.out
  go_wp2_with fail
  refine (HA5.out _ (cell_kept HB3.out HD.out) HY3.out).mono ?_
  rintro e w4 ⟨rfl, hb4⟩
  have HB4 := Hid.mk (bl2 HB3.out hb4)
  have HG4 := Hid.mk (HG3.out.kept hb4)
  have HYG4 := Hid.mk (isBytes_below HYG3.out hb4)
  clear HYG3
  clear hb4 HB3 HG3 HK3 HY3 k0 k1 k2 k3 k4 k5
  go_wp2_with fail
  go_loopw [7, 8, 35] (fun b r i wr => ∃ k : Nat, k ≤ n ∧ i = .int .i64 k ∧ b = .int .i64 0 ∧ (∃ RT : ByteArray, r = .string RT ∧ Hid (RT.data.toList = turnK (bitsL f) zs k)) ∧ Hid (inK (bitsL f).length zs k) ∧ Hid (Below w4.heap.size w4 wr)) (fun _ _ i _ => n - (intOf i).toNat)
  case atStart => exact ⟨0, Nat.zero_le _, rfl, rfl, ⟨BT, rfl, HBT⟩, Hid.mk (fun j hj => absurd hj (Nat.not_lt_zero _)), Hid.mk (Below.refl _ _)⟩
  case round =>
    obtain ⟨k, hk, rfl, rfl, ⟨RT, rfl, HRT⟩, HI, HB⟩ := hrel
    have HBw := Hid.mk (bl2 HB4.out HB.out)
    have HRS := Hid.mk (show RT.size = (bitsL f).length by rw [ba_size HRT.out, turnK_len])
    have hR9 : RT.size ≤ 900 := by rw [HRS.out]; exact HLEN.out
    by_cases hlt : k < n
    · have hlt' : (k : Int) < (n : Int) := by omega
      have hkl : k < zs.length := by rw [HN.out.1]; exact hlt
      cases p with
      | none => exact absurd (HN.out.2.1 rfl) (by omega)
      | some x =>
        have cz := cell_kept HBw.out (HN.out.2.2 x rfl k hlt)
        by_cases hzi : 0 ≤ zs.getD k 0 ∧ zs.getD k 0 < ((bitsL f).length : Int)
        · obtain ⟨i, hi⟩ : ∃ i : Nat, zs.getD k 0 = (i : Int) := ⟨(zs.getD k 0).toNat, by omega⟩
          have HIn := Hid.mk (inK_next HI.out hzi.1 hzi.2)
          rw [hi] at cz hzi
          have hiR : i < RT.size := by rw [HRS.out]; omega
          have hiR' : (i : Int) < (RT.size : Int) := by omega
          have hch := at_getD RT i hiR
          obtain ⟨ch, hchE⟩ : ∃ ch, ch = RT[i] := ⟨_, rfl⟩
          have htn : RT.data.toList.take i ++ otb ch :: RT.data.toList.drop (i + 1) = turnK (bitsL f) zs (k + 1) := by
            rw [turnK, hi, Int.toNat_natCast, ← HRT.out, set_parts _ _ _ (by simpa using hiR), hchE, hch]
          have HTN := Hid.mk htn
          have hsl1 : ∀ W, (Instr.slice 9 (.string RT) none (some (.int .i64 (i : Int))) none).run Tryz.prog W = .ok (.string (RT.extract 0 i)) W := by
            intro W
            rw [run_slice_string_h W _ RT Tryz.underlying9 .i64 _ (by omega) (by omega), Int.toNat_natCast]
          have hsl2 : ∀ W, (Instr.slice 9 (.string RT) (some (.int .i64 (IntKind.i64.wrap ((i : Int) + 1)))) none none).run Tryz.prog W = .ok (.string (RT.extract (i + 1) RT.size)) W := by
            intro W
            rw [show IntKind.i64.wrap ((i : Int) + 1) = ((i + 1 : Nat) : Int) by rw [IntKind.wrap_i64]; omega]
            rw [run_slice_string_l W _ RT Tryz.underlying9 .i64 _ (by omega) (by omega), Int.toNat_natCast]
          have hcv := convert_lit (wr.alloc (.cells #[.int .u8 (otb ch).toNat] 5)).drew wr.heap.size (otb ch) (heap_alloc_new wr _)
          have HX1 := Hid.mk (show (RT.extract 0 i).data.toList = RT.data.toList.take i by
            have := extract_list RT 0 i
            rw [Nat.zero_add] at this
            rw [this, List.drop_zero])
          have HX2 := Hid.mk (show (RT.extract (i + 1) RT.size).data.toList = RT.data.toList.drop (i + 1) by
            have := extract_list RT (i + 1) (RT.size - (i + 1))
            rw [show i + 1 + (RT.size - (i + 1)) = RT.size by omega] at this
            rw [this]
            exact List.take_of_length_le (by simp))
          have hs1 : (RT.extract 0 i).size ≤ 900 := by rw [ByteArray.size_extract]; omega
          have hs2 : (RT.extract (i + 1) RT.size).size ≤ 900 := by rw [ByteArray.size_extract]; omega
          generalize RT.extract 0 i = E1 at *
          generalize RT.extract (i + 1) RT.size = E2 at *
          have HB5 := Hid.mk (show Below w4.heap.size w4 ((wr.alloc (.cells #[.int .u8 (otb ch).toNat] 5)).drew) from (HB.out.alloc HB.out.size _).drew)
          have HCH := Hid.mk hchE
          clear htn hzi hi hkl hch hchE
          go_wp2_with fail
          go_region_with (go_at_call 20; rw [← HCH.out]; refine (otherR_any ch _).mono ?_; rintro e w2 ⟨rfl, hw2⟩; subst hw2)
          all_goals focus
            generalize hX : E1 ++ ⟨#[otb ch]⟩ ++ E2 = X
            have HXl := Hid.mk (show X.data.toList = turnK (bitsL f) zs (k + 1) by
              rw [← hX, ba_cat, ba_cat, HX1.out, HX2.out, ← HTN.out]; simp)
            clear hX hsl1 hsl2 hcv
            go_wp2_with fail
            go_roundw
            case rel => exact ⟨k + 1, by omega, by go_num, rfl, ⟨X, rfl, HXl⟩, HIn, HB5⟩
            case measure => simp [intOf]; omega
        · exact absurd HIN.out (by rw [inAll_not hkl hzi]; decide)
    · have e : k = zs.length := by have := HN.out.1; omega
      have HG5 := Hid.mk (HG4.out.kept HB.out)
      have HT := HRT.out
      rw [e] at HT
      have HA8 := Hid.mk (HA6.out RT HT)
      clear HT HI HRT
      have HYG5 := Hid.mk (isBytes_below HYG4.out HB.out)
      go_wp2_with fail
      refine (HA3.out _ (HS.out.kept HBw.out) (HR.out.kept HBw.out)).mono ?_
      rintro e w6 ⟨rfl, hb6⟩
      have HB6 := Hid.mk (bl2 HBw.out hb6)
      have HG6 := Hid.mk (HG5.out.kept hb6)
      have HYG6 := Hid.mk (isBytes_below HYG5.out hb6)
      clear hb6
      go_wp2_with fail
      refine (HA8.out _ (cell_kept HB6.out HD.out)).mono ?_
      rintro e w7 ⟨ha, hn_, hc, rfl, hyh, hb7⟩
      have hbx : Below w7.heap.size w7 (w7.alloc (.cells #[.int .i64 Gid, .bool Glo, .bool Gfa, .bool Gre, .int .i64 Gsz, .slice ha hn_ hc] 24)) := (Below.refl _ _).alloc (Nat.le_refl _) _
      have hb78 := bl2 hb7 hbx
      obtain ⟨n0, n1, n2, n3, n4, n5⟩ := HG6.out.kept hb78
      obtain ⟨r0, r1, r2, r3, r4, r5⟩ := FrAt.box w7 Gid Glo Gfa Gre Gsz ha hn_ hc
      unfold frameC at r0 r1 r2 r3 r4 r5
      have HB8 := Hid.mk (bl2 HB6.out hb78)
      have HYG8 := Hid.mk (isBytes_below HYG6.out hb78)
      have HYH8 := Hid.mk (isBytes_below hyh hbx)
      clear hyh
      clear hb7 hbx hb78
      go_wp2_with fail
      refine (HA7.out _ _ _ _ _ _ _ HYG8.out HYH8.out).mono ?_
      rintro e w9 ⟨rfl, hb9⟩
      have HB9 := Hid.mk (bl2 HB8.out hb9)
      clear hb9 n0 n1 n2 n3 n4 n5 r0 r1 r2 r3 r4 r5
      go_wp2_with fail
      go_ret
      exact ⟨rfl, HB9.out⟩
end Bw
end Go.Proofs.YthdhhmflfdbkhaaGreatDoor

/- The table of the numbers of bytes off the row's own condition. -/
namespace Go.Proofs.YthdhhmflfdbkhaaGreatDoor
open Go.ChangeShapes Go.WideShapes Go.ChangeAt Go.RowKit
namespace Bw
theorem fsz_eq : Rows.laid_omnibus_frame_sizes (H := Unit) = Lib.tabData .i64 sizesI := by kernel_rfl
theorem fsz_t : Tryz.prog.underlying 81 = some (.array 16 3) := by kernel_rfl
theorem fsz_c : Tryz.prog.cellsOf 81 = 16 := by kernel_rfl
theorem fsz_c1 : Tryz.prog.cellsOf 3 = 1 := by kernel_rfl
theorem fsz_g : Tryz.prog.globalNamed "omnibus/frame.sizes" = some 0 := by kernel_rfl
theorem fsz_y : (Tryz.prog.globals[0]?).map (·.type) = some 81 := by kernel_rfl
theorem sizes_of {W : World} {laid : List (String × DataW Unit)} (hL : laidMet Tryz.prog laid W)
    (h1 : ("omnibus/frame.sizes", Rows.laid_omnibus_frame_sizes) ∈ laid) : SizesAt W := by
  obtain ⟨g, t, cs, fuel, p, hg, hty, hvar, hd⟩ := Lib.laidMet.reads hL h1
  obtain rfl := Option.some.inj (fsz_g.symm.trans hg)
  obtain rfl := Option.some.inj (fsz_y.symm.trans hty)
  rw [fsz_eq] at hd
  have hcs := Lib.cells_of_tab fsz_t Tryz.underlying3 fsz_c1 fsz_c hd
  intro i hi
  have := World.var?_cell hg hvar i
  rw [this, ← Array.getElem?_toList, hcs]
  rw [List.getElem?_map, List.getElem?_eq_getElem hi]
  simp [List.getD, hi]
end Bw
end Go.Proofs.YthdhhmflfdbkhaaGreatDoor

/- The table of kinds off the row's own condition: its cells hold the sizes, polynomials, starts and ends. -/
namespace Go.Proofs.YthdhhmflfdbkhaaGreatDoor
open Go.ChangeShapes Go.WideShapes Go.ChangeAt Go.RowKit
namespace Bw
open Cm
def ruleZ (k : Nat) : List Int := [(kS k : Int), (kP k : Int), (kF k : Int), (kE k : Int)]
def rulesD : List (DataW Unit) := [0, 1, 2, 3, 4].map fun k => .agg ((ruleZ k).map fun z => .lit (.int .i64 z))
theorem five_at (k : Nat) (hk : k ≤ 4) : [0, 1, 2, 3, 4][k]? = some k := by
  match k, hk with
  | 0, _ => rfl
  | 1, _ => rfl
  | 2, _ => rfl
  | 3, _ => rfl
  | 4, _ => rfl
theorem rulesD_at (k : Nat) (hk : k ≤ 4) : rulesD[k]? = some (.agg ((ruleZ k).map fun z => .lit (.int .i64 z))) := by
  rw [rulesD, List.getElem?_map, five_at k hk]; rfl
theorem rules_eq : Rows.laid_omnibus_check_rules (H := Unit) = .agg rulesD := by kernel_rfl
theorem rules_t : Tryz.prog.underlying 116 = some (.array 5 115) := by kernel_rfl
theorem rule_c : Tryz.prog.cellsOf 115 = 4 := by kernel_rfl
theorem int_c : Tryz.prog.cellsOf 3 = 1 := by kernel_rfl
theorem rules_g : Tryz.prog.globalNamed "omnibus/check.rules" = some 1 := by kernel_rfl
theorem rules_y : (Tryz.prog.globals[1]?).map (·.type) = some 116 := by kernel_rfl
theorem rules_of {W : World} {laid : List (String × DataW Unit)} (hL : laidMet Tryz.prog laid W)
    (h1 : ("omnibus/check.rules", Rows.laid_omnibus_check_rules) ∈ laid) : RulesAt W := by
  obtain ⟨g, t, cs, fuel, p, hg, hty, hvar, hd⟩ := Lib.laidMet.reads hL h1
  obtain rfl := Option.some.inj (rules_g.symm.trans hg)
  obtain rfl := Option.some.inj (rules_y.symm.trans hty)
  rw [rules_eq] at hd
  intro k hk
  obtain ⟨fuel', d, q, hdk, htr⟩ := Lib.array_elem rules_t hd k (by omega)
  have hdd : d = .agg ((ruleZ k).map fun z => .lit (.int .i64 z)) := by
    have := rulesD_at k hk
    rw [hdk] at this
    exact Option.some.inj this
  subst hdd
  have hz := Lib.ints_of_struct Tryz.underlying115 (by
    intro i f h
    match i, h with
    | 0, h => cases h; exact ⟨Tryz.underlying3, rfl, int_c⟩
    | 1, h => cases h; exact ⟨Tryz.underlying3, rfl, int_c⟩
    | 2, h => cases h; exact ⟨Tryz.underlying3, rfl, int_c⟩
    | 3, h => cases h; exact ⟨Tryz.underlying3, rfl, int_c⟩
    | i + 4, h => simp at h) rule_c htr
  rw [rule_c] at hz
  have hc : ∀ j, j < 4 → cs[k * 4 + j]? = ((ruleZ k).map fun z => Value.int .i64 z)[j]? := by
    intro j hj
    rw [← hz, List.getElem?_take_of_lt hj, List.getElem?_drop, Array.getElem?_toList]
  have hv := fun j => World.var?_cell hg hvar j
  refine ⟨?_, ?_, ?_, ?_⟩
  · rw [hv, ← Nat.add_zero (k * 4), hc 0 (by omega)]; rfl
  · rw [hv, hc 1 (by omega)]; rfl
  · rw [hv, hc 2 (by omega)]; rfl
  · rw [hv, hc 3 (by omega)]; rfl
end Bw
end Go.Proofs.YthdhhmflfdbkhaaGreatDoor

/- The one cell of the table of math/bits that is read, off the row's own condition. -/
namespace Go.Proofs.YthdhhmflfdbkhaaGreatDoor
open Go.ChangeShapes Go.WideShapes Go.ChangeAt Go.RowKit
namespace Bw
def bruijnZ : List Int := [0, 1, 56, 2, 57, 49, 28, 3, 61, 58, 42, 50, 38, 29, 17, 4, 62, 47, 59, 36, 45, 43, 51, 22, 53, 39, 33, 30, 24, 18, 12, 5, 63, 55, 48, 27, 60, 41, 37, 16, 46, 35, 44, 21, 52, 32, 23, 11, 54, 26, 40, 15, 34, 20, 31, 10, 25, 14, 19, 9, 13, 8, 7, 6]
theorem bruijn_eq : Rows.laid_math_bits_deBruijn64tab (H := Unit) = Lib.tabData .u8 bruijnZ := by kernel_rfl
theorem bruijn_t : Tryz.prog.underlying 171 = some (.array 64 5) := by kernel_rfl
theorem bruijn_c : Tryz.prog.cellsOf 171 = 64 := by kernel_rfl
theorem bruijn_c1 : Tryz.prog.cellsOf 5 = 1 := by kernel_rfl
theorem bruijn_g : Tryz.prog.globalNamed "math/bits.deBruijn64tab" = some 5 := by kernel_rfl
theorem bruijn_y : (Tryz.prog.globals[5]?).map (·.type) = some 171 := by kernel_rfl
theorem bruijn_of {W : World} {laid : List (String × DataW Unit)} (hL : laidMet Tryz.prog laid W)
    (h1 : ("math/bits.deBruijn64tab", Rows.laid_math_bits_deBruijn64tab) ∈ laid) : W.cell? ⟨5, 1, none⟩ = some (.int .u8 1) := by
  obtain ⟨g, t, cs, fuel, p, hg, hty, hvar, hd⟩ := Lib.laidMet.reads hL h1
  obtain rfl := Option.some.inj (bruijn_g.symm.trans hg)
  obtain rfl := Option.some.inj (bruijn_y.symm.trans hty)
  rw [bruijn_eq] at hd
  have hcs := Lib.cells_of_tab bruijn_t Tryz.underlying5 bruijn_c1 bruijn_c hd
  have := World.var?_cell hg hvar 1
  rw [this, ← Array.getElem?_toList, hcs]
  rfl
end Bw
end Go.Proofs.YthdhhmflfdbkhaaGreatDoor

/- The law WireNoise: with any bits turned any frame is read as the document says, errors too. -/
namespace Go.Proofs.YthdhhmflfdbkhaaGreatDoor
open Go.ChangeShapes Go.WideShapes Go.ChangeAt Go.RowKit
namespace wireNoise
open Bw Bm
theorem numsA_of {w : World} {a : Option Addr} {n c : Nat} {zs : List Int} (h : IsRow .i64 w a n c zs) : NumsA w a n (zs.take n) := by
  rcases h with ⟨rfl, rfl, rfl, rfl⟩ | ⟨x, rfl, h1, h2, h3, h4, h5⟩
  · exact ⟨rfl, fun _ => rfl, fun x hx => by cases hx⟩
  · refine ⟨by rw [List.length_take]; omega, fun h => (by cases h), fun y hy i hi => ?_⟩
    cases hy
    rw [h4 i (by omega)]
    simp [List.getD, hi]
theorem walk (id : Int) (lo fa re : Bool) (sz : Int) (a : Option Addr) (len cap : Nat) (ys : List Int) (p : Option Addr) (n c : Nat) (zs : List Int) (w : World) (_ : (Lit.int .i64 id).wf = true) (_ : (Lit.int .i64 sz).wf = true) (hy : IsRow .u8 w a len cap ys) (hz : IsRow .i64 w p n c zs) (hL : laidMet Tryz.prog Rows.wireNoiseRow.laid w) :
    Calls Tryz.prog 5 #[frameV id lo fa re sz a len cap, .slice p n c] w fun e w' => e = .returned (.bool true) ∧ Below w.heap.size w w' := by
  have hS := sizes_of hL (by simp [Rows.wireNoiseRow])
  have hR := rules_of hL (by simp [Rows.wireNoiseRow])
  have hD := bruijn_of hL (by simp [Rows.wireNoiseRow])
  have hCF : CheckF := fun id lo fa re sz a len cap w h => checkFrame_any id lo fa re sz a len cap w h
  obtain ⟨l, hl⟩ := isBytes_of_row hy
  have hN := numsA_of hz
  generalize zs.take n = qs at hN
  by_cases hE : frE ⟨id, lo, fa, re, sz, l⟩ = 0
  · by_cases hn : 1000 < n
    · exact wnoise_many hCF ⟨id, lo, fa, re, sz, l⟩ a len cap p n c w hS hR hD hl hE hn
    · rcases Bool.eq_false_or_eq_true (inAll (bitsL ⟨id, lo, fa, re, sz, l⟩).length qs) with hin | hin
      · by_cases hr : (rdE (turnK (bitsL ⟨id, lo, fa, re, sz, l⟩) qs qs.length)).fl = 0
        · exact wnoise_ok hCF ⟨id, lo, fa, re, sz, l⟩ a len cap p n c w hS hR hD hl qs hE (by omega) hN hin hr
        · exact wnoise_no hCF ⟨id, lo, fa, re, sz, l⟩ a len cap p n c w hS hR hD hl qs hE (by omega) hN hin hr
      · exact wnoise_out hCF ⟨id, lo, fa, re, sz, l⟩ a len cap p n c w hS hR hD hl qs hE (by omega) hN hin
  · exact wnoise_bad hCF ⟨id, lo, fa, re, sz, l⟩ a len cap p n c w hS hR hD hl hE
end wireNoise
end Go.Proofs.YthdhhmflfdbkhaaGreatDoor
