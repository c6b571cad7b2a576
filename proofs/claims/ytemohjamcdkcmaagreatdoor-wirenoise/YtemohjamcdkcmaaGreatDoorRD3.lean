/- The document's own ReadBits, part 3, its beginning. -/
import Derived.Test.YtemohjamcdkcmaaGreatDoorRD2
import Derived.Test.YtemohjamcdkcmaaGreatDoorRD1
namespace Go.Proofs.YtemohjamcdkcmaaGreatDoor
open Go.ChangeShapes Go.WideShapes Go.ChangeAt Go.RowKit
namespace Bw
open Bm Cm

noncomputable def rbBody : Code := (Tryz.f20.body).getD .skip
def dropSeq : Nat → Code → Code
  | 0, c => c
  | n + 1, .seq _ b => dropSeq n b
  | _ + 1, c => c
/-- the first statements of a code, and another code behind them -/
def withTail : Nat → Code → Code → Code
  | 0, _, tl => tl
  | n + 1, .seq a b, tl => .seq a (withTail n b tl)
  | _ + 1, c, tl => .seq c tl
theorem ownsRow_tch {w w' : World} {gs : List Nat} {base : Nat} {e : TypeId} {size : Nat} {v : Value} {n : Nat} {xs : List Value} (h : w.ownsRow base e size v n xs) (ht : Tch gs w w') (hg : ∀ g ∈ gs, g < base) : w'.ownsRow base e size v n xs := by
  refine ⟨h.1, ?_⟩
  rcases h.2 with hn | ⟨g, cap, cur, hv, hb, hgg, rest⟩
  · exact .inl hn
  · refine .inr ⟨g, cap, cur, hv, hb, ?_, rest⟩
    rw [ht.block g (Array.getElem?_eq_some_iff.1 hgg).1 (fun hm => by have := hg g hm; omega)]
    exact hgg
structure RB (w0 : World) (B top gb gr gF ga gf gh gq : Nat) (b : ByteArray) (w : World) (S : RS) (id : Int) (lo fa re : Bool) (sz : Int) (v : Value) (dt : List UInt8) : Prop where
  st : RSt w gb gh gf ga b S
  q : BoxAt w gq 74 (bitF gb gh gf ga)
  F : w.heap[gF]? = some (.cells #[.int .i64 id, .bool lo, .bool fa, .bool re, .int .i64 sz, v] 24 (0, 0))
  R : w.heap[gr]? = some (.cells #[.int .i64 0, .bool false, .bool false, .bool false, .int .i64 0, .slice none 0 0] 24 (0, 0))
  D : w.ownsRow top 5 1 v dt.length (cellsOf dt)
  bel : Below B w0 w
  nd : [gb, gr, gF, ga, gf, gh, gq].Nodup
  ge : ∀ g ∈ [gb, gr, gF, ga, gf, gh, gq], B ≤ g ∧ g < top
  hB : B ≤ w0.heap.size
  ht : top ≤ w.heap.size
section
variable {w0 : World} {B top gb gr gF ga gf gh gq : Nat} {b : ByteArray} {w : World} {S : RS} {id : Int} {lo fa re : Bool} {sz : Int} {v : Value} {dt : List UInt8}
theorem heap_lt {w : World} {g : Nat} {o : Obj} (h : w.heap[g]? = some o) : g < w.heap.size := (Array.getElem?_eq_some_iff.1 h).1
theorem RB.call {w1 : World} {S1 : RS} (h : RB w0 B top gb gr gF ga gf gh gq b w S id lo fa re sz v dt) (hS : RSt w1 gb gh gf ga b S1) (ht : Tch [gh, gf, ga] w w1) :
    RB w0 B top gb gr gF ga gf gh gq b w1 S1 id lo fa re sz v dt := by
  have nd := h.nd
  simp at nd
  refine ⟨hS, ht.box h.q (by simp; omega), (ht.block gF (heap_lt h.F) (by simp; omega)).trans h.F, (ht.block gr (heap_lt h.R) (by simp; omega)).trans h.R, ownsRow_tch h.D ht (fun g hg => ?_), Tch.below h.bel ht (fun g hg => ?_) h.hB, h.nd, h.ge, h.hB, Nat.le_trans h.ht ht.size⟩
  · have := h.ge g (by simp at hg ⊢; omega)
    exact this.2
  · have := h.ge g (by simp at hg ⊢; omega)
    exact this.1
theorem RB.kept {w1 : World} (h : RB w0 B top gb gr gF ga gf gh gq b w S id lo fa re sz v dt) (hb : Below w.heap.size w w1) :
    RB w0 B top gb gr gF ga gf gh gq b w1 S id lo fa re sz v dt := h.call (h.st.kept hb) (Tch.of hb)
theorem RB.setF {k : Nat} {x : Value} {id' : Int} {lo' fa' re' : Bool} {sz' : Int} {v' : Value} {dt' : List UInt8} (h : RB w0 B top gb gr gF ga gf gh gq b w S id lo fa re sz v dt)
    (he : (#[.int .i64 id, .bool lo, .bool fa, .bool re, .int .i64 sz, v] : Array Value).setIfInBounds k x = #[.int .i64 id', .bool lo', .bool fa', .bool re', .int .i64 sz', v'])
    (hD : w.ownsRow top 5 1 v' dt'.length (cellsOf dt')) :
    RB w0 B top gb gr gF ga gf gh gq b (w.setCell ⟨gF, k, none⟩ x) S id' lo' fa' re' sz' v' dt' := by
  have nd := h.nd
  simp at nd
  have ht : Tch [gF] w (w.setCell ⟨gF, k, none⟩ x) := (Tch.refl _ _).setK (by simp) k x
  obtain ⟨g1, g2⟩ := h.ge gF (by simp)
  have hF := heap_setCell_same w gF k _ _ x h.F
  rw [he] at hF
  refine ⟨⟨ht.box h.st.b (by simp; omega), ht.box h.st.h (by simp; omega), ht.box h.st.f (by simp; omega), ht.box h.st.a (by simp; omega), h.st.ne⟩, ht.box h.q (by simp; omega), hF, (ht.block gr (heap_lt h.R) (by simp; omega)).trans h.R, ownsRow_tch hD ht (fun g hg => by simp at hg; omega), Tch.below h.bel ht (fun g hg => by simp at hg; omega) h.hB, h.nd, h.ge, h.hB, Nat.le_trans h.ht ht.size⟩
theorem RB.drew (h : RB w0 B top gb gr gF ga gf gh gq b w S id lo fa re sz v dt) : RB w0 B top gb gr gF ga gf gh gq b w.drew S id lo fa re sz v dt :=
  ⟨⟨h.st.b, h.st.h, h.st.f, h.st.a, h.st.ne⟩, h.q, h.F, h.R, h.D, h.bel.drew, h.nd, h.ge, h.hB, h.ht⟩
theorem RB.id' (h : RB w0 B top gb gr gF ga gf gh gq b w S id lo fa re sz v dt) (x : Int) : RB w0 B top gb gr gF ga gf gh gq b (w.setCell ⟨gF, 0, none⟩ (.int .i64 x)) S x lo fa re sz v dt := h.setF (by simp) h.D
theorem RB.lo' (h : RB w0 B top gb gr gF ga gf gh gq b w S id lo fa re sz v dt) (x : Bool) : RB w0 B top gb gr gF ga gf gh gq b (w.setCell ⟨gF, 1, none⟩ (.bool x)) S id x fa re sz v dt := h.setF (by simp) h.D
theorem RB.fa' (h : RB w0 B top gb gr gF ga gf gh gq b w S id lo fa re sz v dt) (x : Bool) : RB w0 B top gb gr gF ga gf gh gq b (w.setCell ⟨gF, 2, none⟩ (.bool x)) S id lo x re sz v dt := h.setF (by simp) h.D
theorem RB.re' (h : RB w0 B top gb gr gF ga gf gh gq b w S id lo fa re sz v dt) (x : Bool) : RB w0 B top gb gr gF ga gf gh gq b (w.setCell ⟨gF, 3, none⟩ (.bool x)) S id lo fa x sz v dt := h.setF (by simp) h.D
theorem RB.sz' (h : RB w0 B top gb gr gF ga gf gh gq b w S id lo fa re sz v dt) (x : Int) : RB w0 B top gb gr gF ga gf gh gq b (w.setCell ⟨gF, 4, none⟩ (.int .i64 x)) S id lo fa re x v dt := h.setF (by simp) h.D
theorem RB.cells (h : RB w0 B top gb gr gF ga gf gh gq b w S id lo fa re sz v dt) : w.cell? ⟨gF, 0, none⟩ = some (.int .i64 id) ∧ w.cell? ⟨gF, 1, none⟩ = some (.bool lo) ∧ w.cell? ⟨gF, 2, none⟩ = some (.bool fa) ∧ w.cell? ⟨gF, 3, none⟩ = some (.bool re) ∧ w.cell? ⟨gF, 4, none⟩ = some (.int .i64 sz) ∧ w.cell? ⟨gF, 5, none⟩ = some v :=
  ⟨by rw [cell_of_row w gF 0 _ _ _ h.F]; rfl, by rw [cell_of_row w gF 1 _ _ _ h.F]; rfl, by rw [cell_of_row w gF 2 _ _ _ h.F]; rfl, by rw [cell_of_row w gF 3 _ _ _ h.F]; rfl, by rw [cell_of_row w gF 4 _ _ _ h.F]; rfl, by rw [cell_of_row w gF 5 _ _ _ h.F]; rfl⟩
theorem RB.frozen (h : RB w0 B top gb gr gF ga gf gh gq b w S id lo fa re sz v dt) (k : Nat) : w.frozen? ⟨gF, k, none⟩ = false := frozen_of_row w gF k _ _ h.F
theorem RB.bit (h : RB w0 B top gb gr gF ga gf gh gq b w S id lo fa re sz v dt) : w.cell? ⟨gq, 0, none⟩ = some (.func (.func 54) #[] #[.pointer (some ⟨gb, 0, none⟩), .pointer (some ⟨gh, 0, none⟩), .pointer (some ⟨gf, 0, none⟩), .pointer (some ⟨ga, 0, none⟩)]) := h.q.cell
theorem RB.hqn (h : RB w0 B top gb gr gF ga gf gh gq b w S id lo fa re sz v dt) : gq ≠ gh ∧ gq ≠ gf ∧ gq ≠ ga := by
  have nd := h.nd
  simp at nd
  omega
end
/-- one bit as a text, and whether it is this one -/
theorem one_is (c d : UInt8) : ((ByteArray.mk #[c]).toList == (ByteArray.mk #[d]).toList) = (c == d) := by
  have h1 : (ByteArray.mk #[c]).toList = [c] := by simp [ByteArray.toList_eq]
  have h2 : (ByteArray.mk #[d]).toList = [d] := by simp [ByteArray.toList_eq]
  rw [h1, h2]
  by_cases h : c = d
  · subst h; simp
  · have : (c == d) = false := by simpa using h
    rw [this]; simpa using h
end Bw
end Go.Proofs.YtemohjamcdkcmaaGreatDoor
namespace Go.Proofs.YtemohjamcdkcmaaGreatDoor
open Go.ChangeShapes Go.WideShapes Go.ChangeAt Go.RowKit
namespace Bw
open Bm Cm
theorem heap_oldB (w : World) (o : Obj) (k : Nat) (hk : k < w.heap.size) : (w.alloc o).heap[k]? = w.heap[k]? := ((Below.refl w.heap.size w).alloc (Nat.le_refl _) o).block k hk
theorem heap_newB (w : World) (o : Obj) (k : Nat) (hk : k = w.heap.size) : (w.alloc o).heap[k]? = some o := by subst hk; exact heap_alloc_new w o
set_option maxHeartbeats 8000000 in
set_option maxRecDepth 100000 in
theorem rb0 (tl : Code) (R0 : Ending → World → Prop) (b : ByteArray) (w : World) 
    (hT : ∀ (x0 x3 x4 x12 x13 x14 x15 x16 x17 x18 x19 x20 x21 x22 x23 x24 x25 x26 x27 x28 x29 x30 x31 x32 x33 x34 x35 x36 x37 x38 x39 x40 x41 x42 x43 x44 x45 x46 x47 x48 x49 x50 x51 x52 x53 x54 x55 x56 x57 x58 x59 x60 x61 x62 x63 x64 x65 x66 x67 x68 x69 x70 x71 x72 x73 x74 x75 x76 x77 x78 x79 x80 x81 x82 x83 x84 x85 x86 x87 x88 x89 x90 x91 x92 x93 x94 x95 x96 x97 x98 x99 x100 x101 x102 x103 x104 x105 x106 x107 x108 x109 x110 x111 x112 x113 x114 x115 x116 x117 x118 x119 x120 x121 x122 x123 x124 x125 x126 x127 x128 x129 x130 x131 x132 x133 x134 x135 x136 x137 x138 x139 x140 x141 x142 x143 x144 x145 x146 x147 x148 x149 x150 x151 x152 x153 x154 x155 x156 x157 x158 x159 x160 x161 x162 x163 x164 x165 x166 x167 x168 x169 x170 x171 x172 x173 x174 x175 x176 x177 x178 x179 x180 x181 x182 x183 x184 x185 x186 x187 x188 x189 x190 x191 x192 x193 x194 x195 x196 x197 x198 x199 x200 x201 x202 x203 x204 x205 x206 x207 x208 x209 x210 x211 : Value), RB w w.heap.size (w.heap.size + 1 + 1 + 1 + 1 + 1 + 1 + 1) w.heap.size (w.heap.size + 1) (w.heap.size + 1 + 1) (w.heap.size + 1 + 1 + 1) (w.heap.size + 1 + 1 + 1 + 1) (w.heap.size + 1 + 1 + 1 + 1 + 1) (w.heap.size + 1 + 1 + 1 + 1 + 1 + 1) b (((((((w.alloc (.cells #[.string b] 9)).alloc (.cells #[.int .i64 0, .bool false, .bool false, .bool false, .int .i64 0, .slice none 0 0] 24)).alloc (.cells #[.int .i64 0, .bool false, .bool false, .bool false, .int .i64 0, .slice none 0 0] 24)).alloc (.cells #[.int .i64 0] 3)).alloc (.cells #[.int .i64 0] 26)).alloc (.cells #[.string ⟨#[]⟩] 9)).alloc (.cells #[(.func (.func 54) #[] #[.pointer (some ⟨w.heap.size, 0, none⟩), .pointer (some ⟨(w.heap.size + 1 + 1 + 1 + 1 + 1), 0, none⟩), .pointer (some ⟨(w.heap.size + 1 + 1 + 1 + 1), 0, none⟩), .pointer (some ⟨(w.heap.size + 1 + 1 + 1), 0, none⟩)])] 74)) ⟨0, 0, []⟩ 0 false false false 0 (.slice none 0 0) [] → tl.wp Tryz.prog (bodyPost Tryz.prog Tryz.f20 R0) ⟨#[x0, .pointer (some ⟨w.heap.size, 0, none⟩), .pointer (some ⟨(w.heap.size + 1), 0, none⟩), x3, x4, .pointer (some ⟨(w.heap.size + 1 + 1), 0, none⟩), .pointer (some ⟨(w.heap.size + 1 + 1 + 1), 0, none⟩), .pointer (some ⟨(w.heap.size + 1 + 1 + 1 + 1), 0, none⟩), .pointer (some ⟨(w.heap.size + 1 + 1 + 1 + 1 + 1), 0, none⟩), .pointer (some ⟨(w.heap.size + 1 + 1 + 1 + 1 + 1 + 1), 0, none⟩), .func (.func 56) #[] #[.pointer (some ⟨(w.heap.size + 1 + 1 + 1 + 1 + 1 + 1), 0, none⟩)], .func (.func 57) #[] #[.pointer (some ⟨(w.heap.size + 1 + 1 + 1 + 1), 0, none⟩)], x12, x13, x14, x15, x16, x17, x18, x19, x20, x21, x22, x23, x24, x25, x26, x27, x28, x29, x30, x31, x32, x33, x34, x35, x36, x37, x38, x39, x40, x41, x42, x43, x44, x45, x46, x47, x48, x49, x50, x51, x52, x53, x54, x55, x56, x57, x58, x59, x60, x61, x62, x63, x64, x65, x66, x67, x68, x69, x70, x71, x72, x73, x74, x75, x76, x77, x78, x79, x80, x81, x82, x83, x84, x85, x86, x87, x88, x89, x90, x91, x92, x93, x94, x95, x96, x97, x98, x99, x100, x101, x102, x103, x104, x105, x106, x107, x108, x109, x110, x111, x112, x113, x114, x115, x116, x117, x118, x119, x120, x121, x122, x123, x124, x125, x126, x127, x128, x129, x130, x131, x132, x133, x134, x135, x136, x137, x138, x139, x140, x141, x142, x143, x144, x145, x146, x147, x148, x149, x150, x151, x152, x153, x154, x155, x156, x157, x158, x159, x160, x161, x162, x163, x164, x165, x166, x167, x168, x169, x170, x171, x172, x173, x174, x175, x176, x177, x178, x179, x180, x181, x182, x183, x184, x185, x186, x187, x188, x189, x190, x191, x192, x193, x194, x195, x196, x197, x198, x199, x200, x201, x202, x203, x204, x205, x206, x207, x208, x209, x210, x211], []⟩ (((((((w.alloc (.cells #[.string b] 9)).alloc (.cells #[.int .i64 0, .bool false, .bool false, .bool false, .int .i64 0, .slice none 0 0] 24)).alloc (.cells #[.int .i64 0, .bool false, .bool false, .bool false, .int .i64 0, .slice none 0 0] 24)).alloc (.cells #[.int .i64 0] 3)).alloc (.cells #[.int .i64 0] 26)).alloc (.cells #[.string ⟨#[]⟩] 9)).alloc (.cells #[(.func (.func 54) #[] #[.pointer (some ⟨w.heap.size, 0, none⟩), .pointer (some ⟨(w.heap.size + 1 + 1 + 1 + 1 + 1), 0, none⟩), .pointer (some ⟨(w.heap.size + 1 + 1 + 1 + 1), 0, none⟩), .pointer (some ⟨(w.heap.size + 1 + 1 + 1), 0, none⟩)])] 74)))
    (u1 u2 u3 u4 u5 u6 u7 u8 u9 u10 u11 u12 u13 u14 u15 u16 u17 u18 u19 u20 u21 u22 u23 u24 u25 u26 u27 u28 u29 u30 u31 u32 u33 u34 u35 u36 u37 u38 u39 u40 u41 u42 u43 u44 u45 u46 u47 u48 u49 u50 u51 u52 u53 u54 u55 u56 u57 u58 u59 u60 u61 u62 u63 u64 u65 u66 u67 u68 u69 u70 u71 u72 u73 u74 u75 u76 u77 u78 u79 u80 u81 u82 u83 u84 u85 u86 u87 u88 u89 u90 u91 u92 u93 u94 u95 u96 u97 u98 u99 u100 u101 u102 u103 u104 u105 u106 u107 u108 u109 u110 u111 u112 u113 u114 u115 u116 u117 u118 u119 u120 u121 u122 u123 u124 u125 u126 u127 u128 u129 u130 u131 u132 u133 u134 u135 u136 u137 u138 u139 u140 u141 u142 u143 u144 u145 u146 u147 u148 u149 u150 u151 u152 u153 u154 u155 u156 u157 u158 u159 u160 u161 u162 u163 u164 u165 u166 u167 u168 u169 u170 u171 u172 u173 u174 u175 u176 u177 u178 u179 u180 u181 u182 u183 u184 u185 u186 u187 u188 u189 u190 u191 u192 u193 u194 u195 u196 u197 u198 u199 u200 u201 u202 u203 u204 u205 u206 u207 u208 u209 u210 u211 : Value) : (withTail 8 (dropSeq 0 rbBody) tl).wp Tryz.prog (bodyPost Tryz.prog Tryz.f20 R0) ⟨#[.string b, u1, u2, u3, u4, u5, u6, u7, u8, u9, u10, u11, u12, u13, u14, u15, u16, u17, u18, u19, u20, u21, u22, u23, u24, u25, u26, u27, u28, u29, u30, u31, u32, u33, u34, u35, u36, u37, u38, u39, u40, u41, u42, u43, u44, u45, u46, u47, u48, u49, u50, u51, u52, u53, u54, u55, u56, u57, u58, u59, u60, u61, u62, u63, u64, u65, u66, u67, u68, u69, u70, u71, u72, u73, u74, u75, u76, u77, u78, u79, u80, u81, u82, u83, u84, u85, u86, u87, u88, u89, u90, u91, u92, u93, u94, u95, u96, u97, u98, u99, u100, u101, u102, u103, u104, u105, u106, u107, u108, u109, u110, u111, u112, u113, u114, u115, u116, u117, u118, u119, u120, u121, u122, u123, u124, u125, u126, u127, u128, u129, u130, u131, u132, u133, u134, u135, u136, u137, u138, u139, u140, u141, u142, u143, u144, u145, u146, u147, u148, u149, u150, u151, u152, u153, u154, u155, u156, u157, u158, u159, u160, u161, u162, u163, u164, u165, u166, u167, u168, u169, u170, u171, u172, u173, u174, u175, u176, u177, u178, u179, u180, u181, u182, u183, u184, u185, u186, u187, u188, u189, u190, u191, u192, u193, u194, u195, u196, u197, u198, u199, u200, u201, u202, u203, u204, u205, u206, u207, u208, u209, u210, u211], []⟩ w := by
  show Code.wp _ (.seq _ (.seq _ (.seq _ (.seq _ (.seq _ (.seq _ (.seq _ (.seq _ tl)))))))) _ _ _
  have HT := Hid.mk hT
  clear hT
  have a0 : (((((((w.alloc (.cells #[.string b] 9)).alloc (.cells #[.int .i64 0, .bool false, .bool false, .bool false, .int .i64 0, .slice none 0 0] 24)).alloc (.cells #[.int .i64 0, .bool false, .bool false, .bool false, .int .i64 0, .slice none 0 0] 24)).alloc (.cells #[.int .i64 0] 3)).alloc (.cells #[.int .i64 0] 26)).alloc (.cells #[.string ⟨#[]⟩] 9)).alloc (.cells #[(.func (.func 54) #[] #[.pointer (some ⟨w.heap.size, 0, none⟩), .pointer (some ⟨(w.heap.size + 1 + 1 + 1 + 1 + 1), 0, none⟩), .pointer (some ⟨(w.heap.size + 1 + 1 + 1 + 1), 0, none⟩), .pointer (some ⟨(w.heap.size + 1 + 1 + 1), 0, none⟩)])] 74)).heap[w.heap.size]? = some (.cells #[.string b] 9) := by
    rw [heap_oldB _ _ _ (by first | (simp; done) | (simp; omega))]
    rw [heap_oldB _ _ _ (by first | (simp; done) | (simp; omega))]
    rw [heap_oldB _ _ _ (by first | (simp; done) | (simp; omega))]
    rw [heap_oldB _ _ _ (by first | (simp; done) | (simp; omega))]
    rw [heap_oldB _ _ _ (by first | (simp; done) | (simp; omega))]
    rw [heap_oldB _ _ _ (by first | (simp; done) | (simp; omega))]
    exact heap_newB _ _ _ (by simp)
  have a1 : (((((((w.alloc (.cells #[.string b] 9)).alloc (.cells #[.int .i64 0, .bool false, .bool false, .bool false, .int .i64 0, .slice none 0 0] 24)).alloc (.cells #[.int .i64 0, .bool false, .bool false, .bool false, .int .i64 0, .slice none 0 0] 24)).alloc (.cells #[.int .i64 0] 3)).alloc (.cells #[.int .i64 0] 26)).alloc (.cells #[.string ⟨#[]⟩] 9)).alloc (.cells #[(.func (.func 54) #[] #[.pointer (some ⟨w.heap.size, 0, none⟩), .pointer (some ⟨(w.heap.size + 1 + 1 + 1 + 1 + 1), 0, none⟩), .pointer (some ⟨(w.heap.size + 1 + 1 + 1 + 1), 0, none⟩), .pointer (some ⟨(w.heap.size + 1 + 1 + 1), 0, none⟩)])] 74)).heap[(w.heap.size + 1)]? = some (.cells #[.int .i64 0, .bool false, .bool false, .bool false, .int .i64 0, .slice none 0 0] 24) := by
    rw [heap_oldB _ _ _ (by first | (simp; done) | (simp; omega))]
    rw [heap_oldB _ _ _ (by first | (simp; done) | (simp; omega))]
    rw [heap_oldB _ _ _ (by first | (simp; done) | (simp; omega))]
    rw [heap_oldB _ _ _ (by first | (simp; done) | (simp; omega))]
    rw [heap_oldB _ _ _ (by first | (simp; done) | (simp; omega))]
    exact heap_newB _ _ _ (by simp)
  have a2 : (((((((w.alloc (.cells #[.string b] 9)).alloc (.cells #[.int .i64 0, .bool false, .bool false, .bool false, .int .i64 0, .slice none 0 0] 24)).alloc (.cells #[.int .i64 0, .bool false, .bool false, .bool false, .int .i64 0, .slice none 0 0] 24)).alloc (.cells #[.int .i64 0] 3)).alloc (.cells #[.int .i64 0] 26)).alloc (.cells #[.string ⟨#[]⟩] 9)).alloc (.cells #[(.func (.func 54) #[] #[.pointer (some ⟨w.heap.size, 0, none⟩), .pointer (some ⟨(w.heap.size + 1 + 1 + 1 + 1 + 1), 0, none⟩), .pointer (some ⟨(w.heap.size + 1 + 1 + 1 + 1), 0, none⟩), .pointer (some ⟨(w.heap.size + 1 + 1 + 1), 0, none⟩)])] 74)).heap[(w.heap.size + 1 + 1)]? = some (.cells #[.int .i64 0, .bool false, .bool false, .bool false, .int .i64 0, .slice none 0 0] 24) := by
    rw [heap_oldB _ _ _ (by first | (simp; done) | (simp; omega))]
    rw [heap_oldB _ _ _ (by first | (simp; done) | (simp; omega))]
    rw [heap_oldB _ _ _ (by first | (simp; done) | (simp; omega))]
    rw [heap_oldB _ _ _ (by first | (simp; done) | (simp; omega))]
    exact heap_newB _ _ _ (by simp)
  have a3 : (((((((w.alloc (.cells #[.string b] 9)).alloc (.cells #[.int .i64 0, .bool false, .bool false, .bool false, .int .i64 0, .slice none 0 0] 24)).alloc (.cells #[.int .i64 0, .bool false, .bool false, .bool false, .int .i64 0, .slice none 0 0] 24)).alloc (.cells #[.int .i64 0] 3)).alloc (.cells #[.int .i64 0] 26)).alloc (.cells #[.string ⟨#[]⟩] 9)).alloc (.cells #[(.func (.func 54) #[] #[.pointer (some ⟨w.heap.size, 0, none⟩), .pointer (some ⟨(w.heap.size + 1 + 1 + 1 + 1 + 1), 0, none⟩), .pointer (some ⟨(w.heap.size + 1 + 1 + 1 + 1), 0, none⟩), .pointer (some ⟨(w.heap.size + 1 + 1 + 1), 0, none⟩)])] 74)).heap[(w.heap.size + 1 + 1 + 1)]? = some (.cells #[.int .i64 0] 3) := by
    rw [heap_oldB _ _ _ (by first | (simp; done) | (simp; omega))]
    rw [heap_oldB _ _ _ (by first | (simp; done) | (simp; omega))]
    rw [heap_oldB _ _ _ (by first | (simp; done) | (simp; omega))]
    exact heap_newB _ _ _ (by simp)
  have a4 : (((((((w.alloc (.cells #[.string b] 9)).alloc (.cells #[.int .i64 0, .bool false, .bool false, .bool false, .int .i64 0, .slice none 0 0] 24)).alloc (.cells #[.int .i64 0, .bool false, .bool false, .bool false, .int .i64 0, .slice none 0 0] 24)).alloc (.cells #[.int .i64 0] 3)).alloc (.cells #[.int .i64 0] 26)).alloc (.cells #[.string ⟨#[]⟩] 9)).alloc (.cells #[(.func (.func 54) #[] #[.pointer (some ⟨w.heap.size, 0, none⟩), .pointer (some ⟨(w.heap.size + 1 + 1 + 1 + 1 + 1), 0, none⟩), .pointer (some ⟨(w.heap.size + 1 + 1 + 1 + 1), 0, none⟩), .pointer (some ⟨(w.heap.size + 1 + 1 + 1), 0, none⟩)])] 74)).heap[(w.heap.size + 1 + 1 + 1 + 1)]? = some (.cells #[.int .i64 0] 26) := by
    rw [heap_oldB _ _ _ (by first | (simp; done) | (simp; omega))]
    rw [heap_oldB _ _ _ (by first | (simp; done) | (simp; omega))]
    exact heap_newB _ _ _ (by simp)
  have a5 : (((((((w.alloc (.cells #[.string b] 9)).alloc (.cells #[.int .i64 0, .bool false, .bool false, .bool false, .int .i64 0, .slice none 0 0] 24)).alloc (.cells #[.int .i64 0, .bool false, .bool false, .bool false, .int .i64 0, .slice none 0 0] 24)).alloc (.cells #[.int .i64 0] 3)).alloc (.cells #[.int .i64 0] 26)).alloc (.cells #[.string ⟨#[]⟩] 9)).alloc (.cells #[(.func (.func 54) #[] #[.pointer (some ⟨w.heap.size, 0, none⟩), .pointer (some ⟨(w.heap.size + 1 + 1 + 1 + 1 + 1), 0, none⟩), .pointer (some ⟨(w.heap.size + 1 + 1 + 1 + 1), 0, none⟩), .pointer (some ⟨(w.heap.size + 1 + 1 + 1), 0, none⟩)])] 74)).heap[(w.heap.size + 1 + 1 + 1 + 1 + 1)]? = some (.cells #[.string ⟨#[]⟩] 9) := by
    rw [heap_oldB _ _ _ (by first | (simp; done) | (simp; omega))]
    exact heap_newB _ _ _ (by simp)
  have a6 : (((((((w.alloc (.cells #[.string b] 9)).alloc (.cells #[.int .i64 0, .bool false, .bool false, .bool false, .int .i64 0, .slice none 0 0] 24)).alloc (.cells #[.int .i64 0, .bool false, .bool false, .bool false, .int .i64 0, .slice none 0 0] 24)).alloc (.cells #[.int .i64 0] 3)).alloc (.cells #[.int .i64 0] 26)).alloc (.cells #[.string ⟨#[]⟩] 9)).alloc (.cells #[(.func (.func 54) #[] #[.pointer (some ⟨w.heap.size, 0, none⟩), .pointer (some ⟨(w.heap.size + 1 + 1 + 1 + 1 + 1), 0, none⟩), .pointer (some ⟨(w.heap.size + 1 + 1 + 1 + 1), 0, none⟩), .pointer (some ⟨(w.heap.size + 1 + 1 + 1), 0, none⟩)])] 74)).heap[(w.heap.size + 1 + 1 + 1 + 1 + 1 + 1)]? = some (.cells #[(.func (.func 54) #[] #[.pointer (some ⟨w.heap.size, 0, none⟩), .pointer (some ⟨(w.heap.size + 1 + 1 + 1 + 1 + 1), 0, none⟩), .pointer (some ⟨(w.heap.size + 1 + 1 + 1 + 1), 0, none⟩), .pointer (some ⟨(w.heap.size + 1 + 1 + 1), 0, none⟩)])] 74) := by
    exact heap_newB _ _ _ (by simp)
  have hsz : (((((((w.alloc (.cells #[.string b] 9)).alloc (.cells #[.int .i64 0, .bool false, .bool false, .bool false, .int .i64 0, .slice none 0 0] 24)).alloc (.cells #[.int .i64 0, .bool false, .bool false, .bool false, .int .i64 0, .slice none 0 0] 24)).alloc (.cells #[.int .i64 0] 3)).alloc (.cells #[.int .i64 0] 26)).alloc (.cells #[.string ⟨#[]⟩] 9)).alloc (.cells #[(.func (.func 54) #[] #[.pointer (some ⟨w.heap.size, 0, none⟩), .pointer (some ⟨(w.heap.size + 1 + 1 + 1 + 1 + 1), 0, none⟩), .pointer (some ⟨(w.heap.size + 1 + 1 + 1 + 1), 0, none⟩), .pointer (some ⟨(w.heap.size + 1 + 1 + 1), 0, none⟩)])] 74)).heap.size = w.heap.size + 1 + 1 + 1 + 1 + 1 + 1 + 1 := by simp
  have hbl : Below w.heap.size w (((((((w.alloc (.cells #[.string b] 9)).alloc (.cells #[.int .i64 0, .bool false, .bool false, .bool false, .int .i64 0, .slice none 0 0] 24)).alloc (.cells #[.int .i64 0, .bool false, .bool false, .bool false, .int .i64 0, .slice none 0 0] 24)).alloc (.cells #[.int .i64 0] 3)).alloc (.cells #[.int .i64 0] 26)).alloc (.cells #[.string ⟨#[]⟩] 9)).alloc (.cells #[(.func (.func 54) #[] #[.pointer (some ⟨w.heap.size, 0, none⟩), .pointer (some ⟨(w.heap.size + 1 + 1 + 1 + 1 + 1), 0, none⟩), .pointer (some ⟨(w.heap.size + 1 + 1 + 1 + 1), 0, none⟩), .pointer (some ⟨(w.heap.size + 1 + 1 + 1), 0, none⟩)])] 74)) := ((((((((Below.refl _ _).alloc (by first | (simp; done) | (simp; omega)) _).alloc (by first | (simp; done) | (simp; omega)) _).alloc (by first | (simp; done) | (simp; omega)) _).alloc (by first | (simp; done) | (simp; omega)) _).alloc (by first | (simp; done) | (simp; omega)) _).alloc (by first | (simp; done) | (simp; omega)) _).alloc (by first | (simp; done) | (simp; omega)) _)
  have H := Hid.mk (show RB w w.heap.size (w.heap.size + 1 + 1 + 1 + 1 + 1 + 1 + 1) w.heap.size (w.heap.size + 1) (w.heap.size + 1 + 1) (w.heap.size + 1 + 1 + 1) (w.heap.size + 1 + 1 + 1 + 1) (w.heap.size + 1 + 1 + 1 + 1 + 1) (w.heap.size + 1 + 1 + 1 + 1 + 1 + 1) b (((((((w.alloc (.cells #[.string b] 9)).alloc (.cells #[.int .i64 0, .bool false, .bool false, .bool false, .int .i64 0, .slice none 0 0] 24)).alloc (.cells #[.int .i64 0, .bool false, .bool false, .bool false, .int .i64 0, .slice none 0 0] 24)).alloc (.cells #[.int .i64 0] 3)).alloc (.cells #[.int .i64 0] 26)).alloc (.cells #[.string ⟨#[]⟩] 9)).alloc (.cells #[(.func (.func 54) #[] #[.pointer (some ⟨w.heap.size, 0, none⟩), .pointer (some ⟨(w.heap.size + 1 + 1 + 1 + 1 + 1), 0, none⟩), .pointer (some ⟨(w.heap.size + 1 + 1 + 1 + 1), 0, none⟩), .pointer (some ⟨(w.heap.size + 1 + 1 + 1), 0, none⟩)])] 74)) ⟨0, 0, []⟩ 0 false false false 0 (.slice none 0 0) [] from ⟨⟨a0, a5, a4, a3, by omega⟩, a6, a2, a1, World.ownsRow_nil _ _ _ _, hbl, by simp; omega, by intro x hx; simp at hx; omega, Nat.le_refl _, by rw [hsz]; exact Nat.le_refl _⟩)
  have hst := fun (A : Addr) (W : World) f x y => run_store Tryz.prog W A (.func f x y) .plain rfl
  clear a0 a1 a2 a3 a4 a5 a6 hsz hbl
  go_wp2_with fail
  apply HT.out
  exact H.out
end Bw
end Go.Proofs.YtemohjamcdkcmaaGreatDoor
namespace Go.Proofs.YtemohjamcdkcmaaGreatDoor
open Go.ChangeShapes Go.WideShapes Go.ChangeAt Go.RowKit
namespace Bw
open Bm Cm
set_option maxHeartbeats 8000000 in
set_option maxRecDepth 100000 in
theorem rb1 (tl : Code) (R0 : Ending → World → Prop) (w0 : World) (B top gb gr gF ga gf gh gq : Nat) (b : ByteArray) (w : World) (h1000 : b.size ≤ 1000) (hb : rowB b.data.toList = true) 
    (h : RB w0 B top gb gr gF ga gf gh gq b w ⟨0, 0, []⟩ 0 false false false 0 (.slice none 0 0) [])
    (hT : ∀ (x0 x3 x4 x12 x13 x14 x15 x16 x17 x18 x19 x20 x21 x22 x23 x24 x25 x26 x27 x28 x29 x30 x31 x32 x33 x34 x35 x36 x37 x38 x39 x40 x41 x42 x43 x44 x45 x46 x47 x48 x49 x50 x51 x52 x53 x54 x55 x56 x57 x58 x59 x60 x61 x62 x63 x64 x65 x66 x67 x68 x69 x70 x71 x72 x73 x74 x75 x76 x77 x78 x79 x80 x81 x82 x83 x84 x85 x86 x87 x88 x89 x90 x91 x92 x93 x94 x95 x96 x97 x98 x99 x100 x101 x102 x103 x104 x105 x106 x107 x108 x109 x110 x111 x112 x113 x114 x115 x116 x117 x118 x119 x120 x121 x122 x123 x124 x125 x126 x127 x128 x129 x130 x131 x132 x133 x134 x135 x136 x137 x138 x139 x140 x141 x142 x143 x144 x145 x146 x147 x148 x149 x150 x151 x152 x153 x154 x155 x156 x157 x158 x159 x160 x161 x162 x163 x164 x165 x166 x167 x168 x169 x170 x171 x172 x173 x174 x175 x176 x177 x178 x179 x180 x181 x182 x183 x184 x185 x186 x187 x188 x189 x190 x191 x192 x193 x194 x195 x196 x197 x198 x199 x200 x201 x202 x203 x204 x205 x206 x207 x208 x209 x210 x211 : Value) (w' : World), RB w0 B top gb gr gF ga gf gh gq b w' (nameJ b.data.toList ⟨0, 0, []⟩).S (nameJ b.data.toList ⟨0, 0, []⟩).id (nameJ b.data.toList ⟨0, 0, []⟩).lo false (nameJ b.data.toList ⟨0, 0, []⟩).re 0 (.slice none 0 0) [] → tl.wp Tryz.prog (bodyPost Tryz.prog Tryz.f20 R0) ⟨#[x0, .pointer (some ⟨gb, 0, none⟩), .pointer (some ⟨gr, 0, none⟩), x3, x4, .pointer (some ⟨gF, 0, none⟩), .pointer (some ⟨ga, 0, none⟩), .pointer (some ⟨gf, 0, none⟩), .pointer (some ⟨gh, 0, none⟩), .pointer (some ⟨gq, 0, none⟩), .func (.func 56) #[] #[.pointer (some ⟨gq, 0, none⟩)], .func (.func 57) #[] #[.pointer (some ⟨gf, 0, none⟩)], x12, x13, x14, x15, x16, x17, x18, x19, x20, x21, x22, x23, x24, x25, x26, x27, x28, x29, x30, x31, x32, x33, x34, x35, x36, x37, x38, x39, x40, x41, x42, x43, x44, x45, x46, x47, x48, x49, x50, x51, x52, x53, x54, x55, x56, x57, x58, x59, x60, x61, x62, x63, x64, x65, x66, x67, x68, x69, x70, x71, x72, x73, x74, x75, x76, x77, x78, x79, x80, x81, x82, x83, x84, x85, x86, x87, x88, x89, x90, x91, x92, x93, x94, x95, x96, x97, x98, x99, x100, x101, x102, x103, x104, x105, x106, x107, x108, x109, x110, x111, x112, x113, x114, x115, x116, x117, x118, x119, x120, x121, x122, x123, x124, x125, x126, x127, x128, x129, x130, x131, x132, x133, x134, x135, x136, x137, x138, x139, x140, x141, x142, x143, x144, x145, x146, x147, x148, x149, x150, x151, x152, x153, x154, x155, x156, x157, x158, x159, x160, x161, x162, x163, x164, x165, x166, x167, x168, x169, x170, x171, x172, x173, x174, x175, x176, x177, x178, x179, x180, x181, x182, x183, x184, x185, x186, x187, x188, x189, x190, x191, x192, x193, x194, x195, x196, x197, x198, x199, x200, x201, x202, x203, x204, x205, x206, x207, x208, x209, x210, x211], []⟩ w')
    (u0 u3 u4 u12 u13 u14 u15 u16 u17 u18 u19 u20 u21 u22 u23 u24 u25 u26 u27 u28 u29 u30 u31 u32 u33 u34 u35 u36 u37 u38 u39 u40 u41 u42 u43 u44 u45 u46 u47 u48 u49 u50 u51 u52 u53 u54 u55 u56 u57 u58 u59 u60 u61 u62 u63 u64 u65 u66 u67 u68 u69 u70 u71 u72 u73 u74 u75 u76 u77 u78 u79 u80 u81 u82 u83 u84 u85 u86 u87 u88 u89 u90 u91 u92 u93 u94 u95 u96 u97 u98 u99 u100 u101 u102 u103 u104 u105 u106 u107 u108 u109 u110 u111 u112 u113 u114 u115 u116 u117 u118 u119 u120 u121 u122 u123 u124 u125 u126 u127 u128 u129 u130 u131 u132 u133 u134 u135 u136 u137 u138 u139 u140 u141 u142 u143 u144 u145 u146 u147 u148 u149 u150 u151 u152 u153 u154 u155 u156 u157 u158 u159 u160 u161 u162 u163 u164 u165 u166 u167 u168 u169 u170 u171 u172 u173 u174 u175 u176 u177 u178 u179 u180 u181 u182 u183 u184 u185 u186 u187 u188 u189 u190 u191 u192 u193 u194 u195 u196 u197 u198 u199 u200 u201 u202 u203 u204 u205 u206 u207 u208 u209 u210 u211 : Value) : (withTail 4 (dropSeq 8 rbBody) tl).wp Tryz.prog (bodyPost Tryz.prog Tryz.f20 R0) ⟨#[u0, .pointer (some ⟨gb, 0, none⟩), .pointer (some ⟨gr, 0, none⟩), u3, u4, .pointer (some ⟨gF, 0, none⟩), .pointer (some ⟨ga, 0, none⟩), .pointer (some ⟨gf, 0, none⟩), .pointer (some ⟨gh, 0, none⟩), .pointer (some ⟨gq, 0, none⟩), .func (.func 56) #[] #[.pointer (some ⟨gq, 0, none⟩)], .func (.func 57) #[] #[.pointer (some ⟨gf, 0, none⟩)], u12, u13, u14, u15, u16, u17, u18, u19, u20, u21, u22, u23, u24, u25, u26, u27, u28, u29, u30, u31, u32, u33, u34, u35, u36, u37, u38, u39, u40, u41, u42, u43, u44, u45, u46, u47, u48, u49, u50, u51, u52, u53, u54, u55, u56, u57, u58, u59, u60, u61, u62, u63, u64, u65, u66, u67, u68, u69, u70, u71, u72, u73, u74, u75, u76, u77, u78, u79, u80, u81, u82, u83, u84, u85, u86, u87, u88, u89, u90, u91, u92, u93, u94, u95, u96, u97, u98, u99, u100, u101, u102, u103, u104, u105, u106, u107, u108, u109, u110, u111, u112, u113, u114, u115, u116, u117, u118, u119, u120, u121, u122, u123, u124, u125, u126, u127, u128, u129, u130, u131, u132, u133, u134, u135, u136, u137, u138, u139, u140, u141, u142, u143, u144, u145, u146, u147, u148, u149, u150, u151, u152, u153, u154, u155, u156, u157, u158, u159, u160, u161, u162, u163, u164, u165, u166, u167, u168, u169, u170, u171, u172, u173, u174, u175, u176, u177, u178, u179, u180, u181, u182, u183, u184, u185, u186, u187, u188, u189, u190, u191, u192, u193, u194, u195, u196, u197, u198, u199, u200, u201, u202, u203, u204, u205, u206, u207, u208, u209, u210, u211], []⟩ w := by
  show Code.wp _ (.seq _ (.seq _ (.seq _ (.seq _ tl)))) _ _ _
  have HT := Hid.mk hT
  have HB := Hid.mk hb
  clear hT hb
  have i0 := Inv.start b.data.toList
  have i1 := i0.bit HB.out
  have i2 : Inv b.data.toList (jA b.data.toList ⟨0, 0, []⟩) 1 := i0.wj HB.out 48
  have i3 : Inv b.data.toList (jN b.data.toList ⟨0, 0, []⟩).2 12 := i2.numJ HB.out 11
  have i4 : Inv b.data.toList (jF b.data.toList ⟨0, 0, []⟩).2 13 := i3.bit HB.out
  have i5 : Inv b.data.toList (jL b.data.toList ⟨0, 0, []⟩).2 14 := i4.bit HB.out
  have i6 : Inv b.data.toList (j5 b.data.toList ⟨0, 0, []⟩) 14 := i5.must _ _
  have i7 : Inv b.data.toList (jM b.data.toList ⟨0, 0, []⟩).2 32 := i6.numJ HB.out 18
  have l0 := Hid.mk i0.n
  have l2 := Hid.mk i2.n
  have l3 := Hid.mk i3.n
  have l4 := Hid.mk i4.n
  have l6 := Hid.mk i6.n
  have l7 := Hid.mk i7.n
  clear i0 i1 i2 i3 i4 i5 i6 i7
  have H0 := Hid.mk h
  clear h
  have qH1 := H0.out.bit
  have AH1 := Hid.mk (bit1_any gb gh gf ga b ⟨0, 0, []⟩ w H0.out.st h1000 (by have := l0.out; omega))
  go_wp2_with fail
  refine AH1.out.mono ?_
  rintro e w1 ⟨rfl, sH1, tH1⟩
  have H1 := Hid.mk (H0.out.call sH1 tH1)
  clear sH1 tH1 AH1 H0
  clear qH1
  have AH2 := Hid.mk (must3_any gb gh gf ga b (bitM b.data.toList ⟨0, 0, []⟩).2 ((bitM b.data.toList ⟨0, 0, []⟩).1 == 48) 4 w1 H1.out.st)
  go_wp2_with fail
  refine AH2.out.mono ?_
  rintro e w2 ⟨rfl, sH2, tH2⟩
  have H2 := Hid.mk (H1.out.call sH2 tH2)
  clear sH2 tH2 AH2 H1
  have e2 : mustM (bitM b.data.toList ⟨0, 0, []⟩).2 ((bitM b.data.toList ⟨0, 0, []⟩).1 == 48) 4 = jA b.data.toList ⟨0, 0, []⟩ := rfl
  rw [e2] at H2
  clear e2
  have AH3 := Hid.mk (num2_any gb gh gf ga gq 11 b (jA b.data.toList ⟨0, 0, []⟩) w2 H2.out.st H2.out.q H2.out.hqn h1000 HB.out (by omega) (by have := l2.out; omega))
  go_wp2_with fail
  refine AH3.out.mono ?_
  rintro e w3 ⟨rfl, sH3, tH3⟩
  have H3 := Hid.mk (H2.out.call sH3 tH3)
  clear sH3 tH3 AH3 H2
  have e3 : numJ b.data.toList (jA b.data.toList ⟨0, 0, []⟩) 11 = jN b.data.toList ⟨0, 0, []⟩ := rfl
  rw [e3] at H3 ⊢
  clear e3
  obtain ⟨cH4, _, _, _, _, _⟩ := H3.out.cells
  have zH4 := H3.out.frozen 0
  have H4 := Hid.mk (H3.out.id' ((jN b.data.toList ⟨0, 0, []⟩).1 : Int))
  clear H3
  have qH5 := H4.out.bit
  have AH5 := Hid.mk (bit1_any gb gh gf ga b (jN b.data.toList ⟨0, 0, []⟩).2 (w3.setCell ⟨gF, 0, none⟩ (.int .i64 ((jN b.data.toList ⟨0, 0, []⟩).1 : Int))) H4.out.st h1000 (by have := l3.out; omega))
  go_wp2_with fail
  refine AH5.out.mono ?_
  rintro e w5 ⟨rfl, sH5, tH5⟩
  have H5 := Hid.mk (H4.out.call sH5 tH5)
  clear sH5 tH5 AH5 H4
  clear qH5
  have e5 : bitM b.data.toList (jN b.data.toList ⟨0, 0, []⟩).2 = jF b.data.toList ⟨0, 0, []⟩ := rfl
  rw [e5] at H5 ⊢
  clear e5 cH4 zH4
  obtain ⟨_, _, _, cH6, _, _⟩ := H5.out.cells
  have zH6 := H5.out.frozen 3
  have H6 := Hid.mk (H5.out.re' ((jF b.data.toList ⟨0, 0, []⟩).1 == 49))
  clear H5
  have qH7 := H6.out.bit
  have AH7 := Hid.mk (bit1_any gb gh gf ga b (jF b.data.toList ⟨0, 0, []⟩).2 (w5.setCell ⟨gF, 3, none⟩ (.bool ((jF b.data.toList ⟨0, 0, []⟩).1 == 49))) H6.out.st h1000 (by have := l4.out; omega))
  go_wp2_with fail
  refine AH7.out.mono ?_
  rintro e w7 ⟨rfl, sH7, tH7⟩
  have H7 := Hid.mk (H6.out.call sH7 tH7)
  clear sH7 tH7 AH7 H6
  clear qH7
  have e7 : bitM b.data.toList (jF b.data.toList ⟨0, 0, []⟩).2 = jL b.data.toList ⟨0, 0, []⟩ := rfl
  rw [e7] at H7 ⊢
  clear e7 cH6 zH6
  obtain ⟨_, cH8, _, _, _, _⟩ := H7.out.cells
  have zH8 := H7.out.frozen 1
  have H8 := Hid.mk (H7.out.lo' ((jL b.data.toList ⟨0, 0, []⟩).1 == 49))
  clear H7
  by_cases hl : (jL b.data.toList ⟨0, 0, []⟩).1 = 49
  · have hq : ((jL b.data.toList ⟨0, 0, []⟩).1 == 49) = true := by simpa using hl
    have HN : Hid (nameJ b.data.toList ⟨0, 0, []⟩ = ⟨(jR b.data.toList ⟨0, 0, []⟩).2, (jN b.data.toList ⟨0, 0, []⟩).1 * 262144 + (jM b.data.toList ⟨0, 0, []⟩).1, true, decide ((jR b.data.toList ⟨0, 0, []⟩).1 = 49)⟩) := Hid.mk (by unfold nameJ; rw [if_pos hl])
    rw [hq] at H8
    rw [hl]
    obtain ⟨_, d1, _, d3, _⟩ := H8.out.cells
    clear hl hq
    have AH9 := Hid.mk (must3_any gb gh gf ga b (jL b.data.toList ⟨0, 0, []⟩).2 ((jF b.data.toList ⟨0, 0, []⟩).1 == 49) 4 (w7.setCell ⟨gF, 1, none⟩ (.bool true)) H8.out.st)
    go_wp2_with fail
    refine AH9.out.mono ?_
    rintro e w9 ⟨rfl, sH9, tH9⟩
    have H9 := Hid.mk (H8.out.call sH9 tH9)
    clear sH9 tH9 AH9 H8
    have e9 : mustM (jL b.data.toList ⟨0, 0, []⟩).2 ((jF b.data.toList ⟨0, 0, []⟩).1 == 49) 4 = j5 b.data.toList ⟨0, 0, []⟩ := rfl
    rw [e9] at H9
    clear e9 d1 d3 cH8 zH8
    have HD := Hid.mk H9.out.drew
    have A10 := Hid.mk (num2_any gb gh gf ga gq 18 b (j5 b.data.toList ⟨0, 0, []⟩) w9.drew HD.out.st HD.out.q HD.out.hqn h1000 HB.out (by omega) (by have := l6.out; omega))
    have e10 : numJ b.data.toList (j5 b.data.toList ⟨0, 0, []⟩) 18 = jM b.data.toList ⟨0, 0, []⟩ := rfl
    rw [e10] at A10
    have v1 := numJ_lt b.data.toList HB.out (jA b.data.toList ⟨0, 0, []⟩) 11
    have v2 := numJ_lt b.data.toList HB.out (j5 b.data.toList ⟨0, 0, []⟩) 18
    rw [e10] at v2
    have e11 : numJ b.data.toList (jA b.data.toList ⟨0, 0, []⟩) 11 = jN b.data.toList ⟨0, 0, []⟩ := rfl
    rw [e11] at v1
    have v1' : ((jN b.data.toList ⟨0, 0, []⟩).1 : Int) ≤ 2047 := by omega
    have v2' : ((jM b.data.toList ⟨0, 0, []⟩).1 : Int) ≤ 262143 := by omega
    clear e10 e11 v1 v2
    obtain ⟨d0, _⟩ := HD.out.cells
    go_wp2_with fail
    go_region_with (go_at_call 56; refine A10.out.mono ?_; rintro e w10 ⟨rfl, s10, t10⟩; have H10 := Hid.mk (HD.out.call s10 t10); obtain ⟨d10, _⟩ := H10.out.cells; have z10 := H10.out.frozen 0; clear s10 t10)
    all_goals focus
      have hw : IntKind.i64.wrap (IntKind.i64.wrap (((jN b.data.toList ⟨0, 0, []⟩).1 : Int) * 262144) + ((jM b.data.toList ⟨0, 0, []⟩).1 : Int)) = (((jN b.data.toList ⟨0, 0, []⟩).1 * 262144 + (jM b.data.toList ⟨0, 0, []⟩).1 : Nat) : Int) := by rw [IntKind.wrap_i64, IntKind.wrap_i64]; omega
      obtain ⟨iv, hiv⟩ : ∃ x : Int, x = (((jN b.data.toList ⟨0, 0, []⟩).1 * 262144 + (jM b.data.toList ⟨0, 0, []⟩).1 : Nat) : Int) := ⟨_, rfl⟩
      rw [hw, ← hiv]
      have H11 := Hid.mk (H10.out.id' iv)
      have HIV := Hid.mk hiv
      clear H10 HD H9 d0 d10 z10 A10 v1' v2' hw hiv
      have qH12 := H11.out.bit
      have AH12 := Hid.mk (bit1_any gb gh gf ga b (jM b.data.toList ⟨0, 0, []⟩).2 (w10.setCell ⟨gF, 0, none⟩ (.int .i64 iv)) H11.out.st h1000 (by have := l7.out; omega))
      go_wp2_with fail
      refine AH12.out.mono ?_
      rintro e w12 ⟨rfl, sH12, tH12⟩
      have H12 := Hid.mk (H11.out.call sH12 tH12)
      clear sH12 tH12 AH12 H11
      clear qH12
      have e12 : bitM b.data.toList (jM b.data.toList ⟨0, 0, []⟩).2 = jR b.data.toList ⟨0, 0, []⟩ := rfl
      rw [e12] at H12 ⊢
      clear e12
      obtain ⟨_, _, _, cH13, _, _⟩ := H12.out.cells
      have zH13 := H12.out.frozen 3
      have H13 := Hid.mk (H12.out.re' ((jR b.data.toList ⟨0, 0, []⟩).1 == 49))
      clear H12
      go_wp2_with fail
      apply HT.out
      rw [HN.out]
      have hf := H13.out
      rw [HIV.out] at hf
      exact hf
  · have hq : ((jL b.data.toList ⟨0, 0, []⟩).1 == 49) = false := by simpa using hl
    have HN : Hid (nameJ b.data.toList ⟨0, 0, []⟩ = ⟨(jL b.data.toList ⟨0, 0, []⟩).2, (jN b.data.toList ⟨0, 0, []⟩).1, false, decide ((jF b.data.toList ⟨0, 0, []⟩).1 = 49)⟩) := Hid.mk (by unfold nameJ; rw [if_neg hl])
    have hl8 : (jL b.data.toList ⟨0, 0, []⟩).1 = 48 := by
      have hbt := bitM_bit b.data.toList HB.out (jF b.data.toList ⟨0, 0, []⟩).2
      rcases (bit_iff _).1 hbt with h | h
      · exact u8_is 48 h
      · exact absurd (u8_is 49 h) hl
    rw [hq] at H8
    rw [hl8]
    obtain ⟨_, d1, _⟩ := H8.out.cells
    clear hl hl8 hq
    go_wp2_with fail
    apply HT.out
    rw [HN.out]
    have := H8.out
    rw [show ((jF b.data.toList ⟨0, 0, []⟩).1 == 49) = decide ((jF b.data.toList ⟨0, 0, []⟩).1 = 49) from rfl] at this
    exact this
end Bw
end Go.Proofs.YtemohjamcdkcmaaGreatDoor
namespace Go.Proofs.YtemohjamcdkcmaaGreatDoor
open Go.ChangeShapes Go.WideShapes Go.ChangeAt Go.RowKit
namespace Bw
open Bm Cm
set_option maxHeartbeats 8000000 in
set_option maxRecDepth 100000 in
theorem rb2 (tl : Code) (R0 : Ending → World → Prop) (w0 : World) (B top gb gr gF ga gf gh gq : Nat) (b : ByteArray) (w : World) (S : RS) (id : Int) (lo re : Bool) (h1000 : b.size ≤ 1000) (hb : rowB b.data.toList = true) (hI : Inv b.data.toList S 33)
    (h : RB w0 B top gb gr gF ga gf gh gq b w S id lo false re 0 (.slice none 0 0) [])
    (hT : ∀ (x0 x3 x4 x12 x13 x14 x15 x16 x17 x18 x19 x20 x21 x22 x23 x24 x25 x26 x27 x28 x29 x30 x31 x32 x33 x34 x35 x36 x37 x38 x39 x40 x41 x42 x43 x44 x45 x46 x47 x48 x49 x50 x51 x52 x53 x54 x55 x56 x57 x58 x59 x60 x61 x62 x63 x64 x65 x66 x67 x68 x69 x70 x71 x72 x73 x74 x75 x76 x77 x78 x79 x80 x81 x82 x83 x84 x85 x86 x87 x88 x89 x90 x91 x92 x93 x94 x95 x96 x97 x98 x99 x100 x101 x102 x103 x104 x105 x106 x107 x108 x109 x110 x111 x112 x113 x114 x115 x116 x117 x118 x119 x120 x121 x122 x123 x124 x125 x126 x127 x128 x129 x130 x131 x132 x133 x134 x135 x136 x137 x138 x139 x140 x141 x142 x143 x144 x145 x146 x147 x148 x149 x150 x151 x152 x153 x154 x155 x156 x157 x158 x159 x160 x161 x162 x163 x164 x165 x166 x167 x168 x169 x170 x171 x172 x173 x174 x175 x176 x177 x178 x179 x180 x181 x182 x183 x184 x185 x186 x187 x188 x189 x190 x191 x192 x193 x194 x195 x196 x197 x198 x199 x200 x201 x202 x203 x204 x205 x206 x207 x208 x209 x210 x211 : Value) (w' : World), RB w0 B top gb gr gF ga gf gh gq b w' (formJ b.data.toList S lo re).1 id lo (formJ b.data.toList S lo re).2 re 0 (.slice none 0 0) [] → tl.wp Tryz.prog (bodyPost Tryz.prog Tryz.f20 R0) ⟨#[x0, .pointer (some ⟨gb, 0, none⟩), .pointer (some ⟨gr, 0, none⟩), x3, x4, .pointer (some ⟨gF, 0, none⟩), .pointer (some ⟨ga, 0, none⟩), .pointer (some ⟨gf, 0, none⟩), .pointer (some ⟨gh, 0, none⟩), .pointer (some ⟨gq, 0, none⟩), .func (.func 56) #[] #[.pointer (some ⟨gq, 0, none⟩)], .func (.func 57) #[] #[.pointer (some ⟨gf, 0, none⟩)], x12, x13, x14, x15, x16, x17, x18, x19, x20, x21, x22, x23, x24, x25, x26, x27, x28, x29, x30, x31, x32, x33, x34, x35, x36, x37, x38, x39, x40, x41, x42, x43, x44, x45, x46, x47, x48, x49, x50, x51, x52, x53, x54, x55, x56, x57, x58, x59, x60, x61, x62, x63, x64, x65, x66, x67, x68, x69, x70, x71, x72, x73, x74, x75, x76, x77, x78, x79, x80, x81, x82, x83, x84, x85, x86, x87, x88, x89, x90, x91, x92, x93, x94, x95, x96, x97, x98, x99, x100, x101, x102, x103, x104, x105, x106, x107, x108, x109, x110, x111, x112, x113, x114, x115, x116, x117, x118, x119, x120, x121, x122, x123, x124, x125, x126, x127, x128, x129, x130, x131, x132, x133, x134, x135, x136, x137, x138, x139, x140, x141, x142, x143, x144, x145, x146, x147, x148, x149, x150, x151, x152, x153, x154, x155, x156, x157, x158, x159, x160, x161, x162, x163, x164, x165, x166, x167, x168, x169, x170, x171, x172, x173, x174, x175, x176, x177, x178, x179, x180, x181, x182, x183, x184, x185, x186, x187, x188, x189, x190, x191, x192, x193, x194, x195, x196, x197, x198, x199, x200, x201, x202, x203, x204, x205, x206, x207, x208, x209, x210, x211], []⟩ w')
    (u0 u3 u4 u12 u13 u14 u15 u16 u17 u18 u19 u20 u21 u22 u23 u24 u25 u26 u27 u28 u29 u30 u31 u32 u33 u34 u35 u36 u37 u38 u39 u40 u41 u42 u43 u44 u45 u46 u47 u48 u49 u50 u51 u52 u53 u54 u55 u56 u57 u58 u59 u60 u61 u62 u63 u64 u65 u66 u67 u68 u69 u70 u71 u72 u73 u74 u75 u76 u77 u78 u79 u80 u81 u82 u83 u84 u85 u86 u87 u88 u89 u90 u91 u92 u93 u94 u95 u96 u97 u98 u99 u100 u101 u102 u103 u104 u105 u106 u107 u108 u109 u110 u111 u112 u113 u114 u115 u116 u117 u118 u119 u120 u121 u122 u123 u124 u125 u126 u127 u128 u129 u130 u131 u132 u133 u134 u135 u136 u137 u138 u139 u140 u141 u142 u143 u144 u145 u146 u147 u148 u149 u150 u151 u152 u153 u154 u155 u156 u157 u158 u159 u160 u161 u162 u163 u164 u165 u166 u167 u168 u169 u170 u171 u172 u173 u174 u175 u176 u177 u178 u179 u180 u181 u182 u183 u184 u185 u186 u187 u188 u189 u190 u191 u192 u193 u194 u195 u196 u197 u198 u199 u200 u201 u202 u203 u204 u205 u206 u207 u208 u209 u210 u211 : Value) : (withTail 1 (dropSeq 12 rbBody) tl).wp Tryz.prog (bodyPost Tryz.prog Tryz.f20 R0) ⟨#[u0, .pointer (some ⟨gb, 0, none⟩), .pointer (some ⟨gr, 0, none⟩), u3, u4, .pointer (some ⟨gF, 0, none⟩), .pointer (some ⟨ga, 0, none⟩), .pointer (some ⟨gf, 0, none⟩), .pointer (some ⟨gh, 0, none⟩), .pointer (some ⟨gq, 0, none⟩), .func (.func 56) #[] #[.pointer (some ⟨gq, 0, none⟩)], .func (.func 57) #[] #[.pointer (some ⟨gf, 0, none⟩)], u12, u13, u14, u15, u16, u17, u18, u19, u20, u21, u22, u23, u24, u25, u26, u27, u28, u29, u30, u31, u32, u33, u34, u35, u36, u37, u38, u39, u40, u41, u42, u43, u44, u45, u46, u47, u48, u49, u50, u51, u52, u53, u54, u55, u56, u57, u58, u59, u60, u61, u62, u63, u64, u65, u66, u67, u68, u69, u70, u71, u72, u73, u74, u75, u76, u77, u78, u79, u80, u81, u82, u83, u84, u85, u86, u87, u88, u89, u90, u91, u92, u93, u94, u95, u96, u97, u98, u99, u100, u101, u102, u103, u104, u105, u106, u107, u108, u109, u110, u111, u112, u113, u114, u115, u116, u117, u118, u119, u120, u121, u122, u123, u124, u125, u126, u127, u128, u129, u130, u131, u132, u133, u134, u135, u136, u137, u138, u139, u140, u141, u142, u143, u144, u145, u146, u147, u148, u149, u150, u151, u152, u153, u154, u155, u156, u157, u158, u159, u160, u161, u162, u163, u164, u165, u166, u167, u168, u169, u170, u171, u172, u173, u174, u175, u176, u177, u178, u179, u180, u181, u182, u183, u184, u185, u186, u187, u188, u189, u190, u191, u192, u193, u194, u195, u196, u197, u198, u199, u200, u201, u202, u203, u204, u205, u206, u207, u208, u209, u210, u211], []⟩ w := by
  show Code.wp _ (.seq _ tl) _ _ _
  have HT := Hid.mk hT
  have HB := Hid.mk hb
  clear hT hb
  have i1 := hI.bit HB.out
  have i2 := i1.must (!re) 4
  have i3 := i2.wj HB.out 48
  have i4 := i3.wj HB.out 49
  have i5 := i1.wj HB.out 48
  have l0 := Hid.mk hI.n
  have l1 := Hid.mk i1.n
  have l2 := Hid.mk i2.n
  have l3 := Hid.mk i3.n
  have l4 := Hid.mk i4.n
  clear i1 i2 i3 i4 i5 hI
  have H0 := Hid.mk h
  clear h
  have qH1 := H0.out.bit
  have AH1 := Hid.mk (bit1_any gb gh gf ga b S w H0.out.st h1000 (by have := l0.out; omega))
  go_wp2_with fail
  refine AH1.out.mono ?_
  rintro e w1 ⟨rfl, sH1, tH1⟩
  have H1 := Hid.mk (H0.out.call sH1 tH1)
  clear sH1 tH1 AH1 H0
  clear qH1
  obtain ⟨_, _, cH2, _, _, _⟩ := H1.out.cells
  have zH2 := H1.out.frozen 2
  have H2 := Hid.mk (H1.out.fa' ((bitM b.data.toList S).1 == 49))
  clear H1
  by_cases hl : (bitM b.data.toList S).1 = 49
  · have hq : ((bitM b.data.toList S).1 == 49) = true := by simpa using hl
    have HN : Hid (formJ b.data.toList S lo re = (wj b.data.toList (wj b.data.toList (wj b.data.toList (mustM (bitM b.data.toList S).2 (!re) 4) 48) 49) 48, true)) := Hid.mk (by unfold formJ; rw [if_pos hl])
    rw [hq] at H2
    rw [hl]
    obtain ⟨_, _, d2, d3, _⟩ := H2.out.cells
    clear hl hq
    have AH3 := Hid.mk (must3_any gb gh gf ga b (bitM b.data.toList S).2 (!re) 4 (w1.setCell ⟨gF, 2, none⟩ (.bool true)) H2.out.st)
    go_wp2_with fail
    refine AH3.out.mono ?_
    rintro e w3 ⟨rfl, sH3, tH3⟩
    have H3 := Hid.mk (H2.out.call sH3 tH3)
    clear sH3 tH3 AH3 H2
    clear d2 d3 cH2 zH2
    have qH4 := H3.out.bit
    have AH4 := Hid.mk (bit1_any gb gh gf ga b (mustM (bitM b.data.toList S).2 (!re) 4) w3 H3.out.st h1000 (by have := l2.out; omega))
    go_wp2_with fail
    refine AH4.out.mono ?_
    rintro e w4 ⟨rfl, sH4, tH4⟩
    have H4 := Hid.mk (H3.out.call sH4 tH4)
    clear sH4 tH4 AH4 H3
    clear qH4
    have AH5 := Hid.mk (must3_any gb gh gf ga b (bitM b.data.toList (mustM (bitM b.data.toList S).2 (!re) 4)).2 ((bitM b.data.toList (mustM (bitM b.data.toList S).2 (!re) 4)).1 == 48) 4 w4 H4.out.st)
    go_wp2_with fail
    refine AH5.out.mono ?_
    rintro e w5 ⟨rfl, sH5, tH5⟩
    have H5 := Hid.mk (H4.out.call sH5 tH5)
    clear sH5 tH5 AH5 H4
    have eH5 : mustM (bitM b.data.toList (mustM (bitM b.data.toList S).2 (!re) 4)).2 ((bitM b.data.toList (mustM (bitM b.data.toList S).2 (!re) 4)).1 == 48) 4 = wj b.data.toList (mustM (bitM b.data.toList S).2 (!re) 4) 48 := rfl
    rw [eH5] at H5
    clear eH5
    have qH6 := H5.out.bit
    have AH6 := Hid.mk (bit1_any gb gh gf ga b (wj b.data.toList (mustM (bitM b.data.toList S).2 (!re) 4) 48) w5 H5.out.st h1000 (by have := l3.out; omega))
    go_wp2_with fail
    refine AH6.out.mono ?_
    rintro e w6 ⟨rfl, sH6, tH6⟩
    have H6 := Hid.mk (H5.out.call sH6 tH6)
    clear sH6 tH6 AH6 H5
    clear qH6
    have AH7 := Hid.mk (must3_any gb gh gf ga b (bitM b.data.toList (wj b.data.toList (mustM (bitM b.data.toList S).2 (!re) 4) 48)).2 ((bitM b.data.toList (wj b.data.toList (mustM (bitM b.data.toList S).2 (!re) 4) 48)).1 == 49) 4 w6 H6.out.st)
    go_wp2_with fail
    refine AH7.out.mono ?_
    rintro e w7 ⟨rfl, sH7, tH7⟩
    have H7 := Hid.mk (H6.out.call sH7 tH7)
    clear sH7 tH7 AH7 H6
    have eH7 : mustM (bitM b.data.toList (wj b.data.toList (mustM (bitM b.data.toList S).2 (!re) 4) 48)).2 ((bitM b.data.toList (wj b.data.toList (mustM (bitM b.data.toList S).2 (!re) 4) 48)).1 == 49) 4 = wj b.data.toList (wj b.data.toList (mustM (bitM b.data.toList S).2 (!re) 4) 48) 49 := rfl
    rw [eH7] at H7
    clear eH7
    have qH8 := H7.out.bit
    have AH8 := Hid.mk (bit1_any gb gh gf ga b (wj b.data.toList (wj b.data.toList (mustM (bitM b.data.toList S).2 (!re) 4) 48) 49) w7 H7.out.st h1000 (by have := l4.out; omega))
    go_wp2_with fail
    refine AH8.out.mono ?_
    rintro e w8 ⟨rfl, sH8, tH8⟩
    have H8 := Hid.mk (H7.out.call sH8 tH8)
    clear sH8 tH8 AH8 H7
    clear qH8
    have AH9 := Hid.mk (must3_any gb gh gf ga b (bitM b.data.toList (wj b.data.toList (wj b.data.toList (mustM (bitM b.data.toList S).2 (!re) 4) 48) 49)).2 ((bitM b.data.toList (wj b.data.toList (wj b.data.toList (mustM (bitM b.data.toList S).2 (!re) 4) 48) 49)).1 == 48) 4 w8 H8.out.st)
    go_wp2_with fail
    refine AH9.out.mono ?_
    rintro e w9 ⟨rfl, sH9, tH9⟩
    have H9 := Hid.mk (H8.out.call sH9 tH9)
    clear sH9 tH9 AH9 H8
    have eH9 : mustM (bitM b.data.toList (wj b.data.toList (wj b.data.toList (mustM (bitM b.data.toList S).2 (!re) 4) 48) 49)).2 ((bitM b.data.toList (wj b.data.toList (wj b.data.toList (mustM (bitM b.data.toList S).2 (!re) 4) 48) 49)).1 == 48) 4 = wj b.data.toList (wj b.data.toList (wj b.data.toList (mustM (bitM b.data.toList S).2 (!re) 4) 48) 49) 48 := rfl
    rw [eH9] at H9
    clear eH9
    go_wp2_with fail
    apply HT.out
    rw [HN.out]
    exact H9.out
  · have hq : ((bitM b.data.toList S).1 == 49) = false := by simpa using hl
    have hl8 : (bitM b.data.toList S).1 = 48 := by
      have hbt := bitM_bit b.data.toList HB.out S
      rcases (bit_iff _).1 hbt with h | h
      · exact u8_is 48 h
      · exact absurd (u8_is 49 h) hl
    have HN : Hid (formJ b.data.toList S lo re = (if lo then wj b.data.toList (bitM b.data.toList S).2 48 else (bitM b.data.toList S).2, false)) := Hid.mk (by unfold formJ; rw [if_neg hl])
    rw [hq] at H2
    rw [hl8]
    obtain ⟨_, d1, d2, _⟩ := H2.out.cells
    clear hl hl8 hq
    cases lo
    · go_wp2_with fail
      apply HT.out
      rw [HN.out]
      exact H2.out
    · have qH4 := H2.out.bit
      have AH4 := Hid.mk (bit1_any gb gh gf ga b (bitM b.data.toList S).2 (w1.setCell ⟨gF, 2, none⟩ (.bool false)) H2.out.st h1000 (by have := l1.out; omega))
      go_wp2_with fail
      refine AH4.out.mono ?_
      rintro e w4 ⟨rfl, sH4, tH4⟩
      have H4 := Hid.mk (H2.out.call sH4 tH4)
      clear sH4 tH4 AH4 H2
      clear qH4
      have AH5 := Hid.mk (must3_any gb gh gf ga b (bitM b.data.toList (bitM b.data.toList S).2).2 ((bitM b.data.toList (bitM b.data.toList S).2).1 == 48) 4 w4 H4.out.st)
      go_wp2_with fail
      refine AH5.out.mono ?_
      rintro e w5 ⟨rfl, sH5, tH5⟩
      have H5 := Hid.mk (H4.out.call sH5 tH5)
      clear sH5 tH5 AH5 H4
      have eH5 : mustM (bitM b.data.toList (bitM b.data.toList S).2).2 ((bitM b.data.toList (bitM b.data.toList S).2).1 == 48) 4 = wj b.data.toList (bitM b.data.toList S).2 48 := rfl
      rw [eH5] at H5
      clear eH5
      go_wp2_with fail
      apply HT.out
      rw [HN.out]
      exact H5.out
end Bw
end Go.Proofs.YtemohjamcdkcmaaGreatDoor
namespace Go.Proofs.YtemohjamcdkcmaaGreatDoor
open Go.ChangeShapes Go.WideShapes Go.ChangeAt Go.RowKit
namespace Bw
open Bm Cm
set_option maxHeartbeats 8000000 in
set_option maxRecDepth 100000 in
theorem rb3 (tl : Code) (R0 : Ending → World → Prop) (w0 : World) (B top gb gr gF ga gf gh gq : Nat) (b : ByteArray) (w : World) (S : RS) (id : Int) (lo fa re : Bool) (h1000 : b.size ≤ 1000) (hb : rowB b.data.toList = true) (hI : Inv b.data.toList S 37)
    (h : RB w0 B top gb gr gF ga gf gh gq b w S id lo fa re 0 (.slice none 0 0) [])
    (hT : ∀ (x0 x3 x4 x13 x14 x15 x16 x17 x18 x19 x20 x21 x22 x23 x24 x25 x26 x27 x28 x29 x30 x31 x32 x33 x34 x35 x36 x37 x38 x39 x40 x41 x42 x43 x44 x45 x46 x47 x48 x49 x50 x51 x52 x53 x54 x55 x56 x57 x58 x59 x60 x61 x62 x63 x64 x65 x66 x67 x68 x69 x70 x71 x72 x73 x74 x75 x76 x77 x78 x79 x80 x81 x82 x83 x84 x85 x86 x87 x88 x89 x90 x91 x92 x93 x94 x95 x96 x97 x98 x99 x100 x101 x102 x103 x104 x105 x106 x107 x108 x109 x110 x111 x112 x113 x114 x115 x116 x117 x118 x119 x120 x121 x122 x123 x124 x125 x126 x127 x128 x129 x130 x131 x132 x133 x134 x135 x136 x137 x138 x139 x140 x141 x142 x143 x144 x145 x146 x147 x148 x149 x150 x151 x152 x153 x154 x155 x156 x157 x158 x159 x160 x161 x162 x163 x164 x165 x166 x167 x168 x169 x170 x171 x172 x173 x174 x175 x176 x177 x178 x179 x180 x181 x182 x183 x184 x185 x186 x187 x188 x189 x190 x191 x192 x193 x194 x195 x196 x197 x198 x199 x200 x201 x202 x203 x204 x205 x206 x207 x208 x209 x210 x211 : Value) (w' : World), RB w0 B top gb gr gF ga gf gh gq b w' (dj2 b.data.toList S fa) id lo fa re 0 (.slice none 0 0) [] → tl.wp Tryz.prog (bodyPost Tryz.prog Tryz.f20 R0) ⟨#[x0, .pointer (some ⟨gb, 0, none⟩), .pointer (some ⟨gr, 0, none⟩), x3, x4, .pointer (some ⟨gF, 0, none⟩), .pointer (some ⟨ga, 0, none⟩), .pointer (some ⟨gf, 0, none⟩), .pointer (some ⟨gh, 0, none⟩), .pointer (some ⟨gq, 0, none⟩), .func (.func 56) #[] #[.pointer (some ⟨gq, 0, none⟩)], .func (.func 57) #[] #[.pointer (some ⟨gf, 0, none⟩)], .int .i64 ((numJ b.data.toList S 4).1 : Int), x13, x14, x15, x16, x17, x18, x19, x20, x21, x22, x23, x24, x25, x26, x27, x28, x29, x30, x31, x32, x33, x34, x35, x36, x37, x38, x39, x40, x41, x42, x43, x44, x45, x46, x47, x48, x49, x50, x51, x52, x53, x54, x55, x56, x57, x58, x59, x60, x61, x62, x63, x64, x65, x66, x67, x68, x69, x70, x71, x72, x73, x74, x75, x76, x77, x78, x79, x80, x81, x82, x83, x84, x85, x86, x87, x88, x89, x90, x91, x92, x93, x94, x95, x96, x97, x98, x99, x100, x101, x102, x103, x104, x105, x106, x107, x108, x109, x110, x111, x112, x113, x114, x115, x116, x117, x118, x119, x120, x121, x122, x123, x124, x125, x126, x127, x128, x129, x130, x131, x132, x133, x134, x135, x136, x137, x138, x139, x140, x141, x142, x143, x144, x145, x146, x147, x148, x149, x150, x151, x152, x153, x154, x155, x156, x157, x158, x159, x160, x161, x162, x163, x164, x165, x166, x167, x168, x169, x170, x171, x172, x173, x174, x175, x176, x177, x178, x179, x180, x181, x182, x183, x184, x185, x186, x187, x188, x189, x190, x191, x192, x193, x194, x195, x196, x197, x198, x199, x200, x201, x202, x203, x204, x205, x206, x207, x208, x209, x210, x211], []⟩ w')
    (u0 u3 u4 u12 u13 u14 u15 u16 u17 u18 u19 u20 u21 u22 u23 u24 u25 u26 u27 u28 u29 u30 u31 u32 u33 u34 u35 u36 u37 u38 u39 u40 u41 u42 u43 u44 u45 u46 u47 u48 u49 u50 u51 u52 u53 u54 u55 u56 u57 u58 u59 u60 u61 u62 u63 u64 u65 u66 u67 u68 u69 u70 u71 u72 u73 u74 u75 u76 u77 u78 u79 u80 u81 u82 u83 u84 u85 u86 u87 u88 u89 u90 u91 u92 u93 u94 u95 u96 u97 u98 u99 u100 u101 u102 u103 u104 u105 u106 u107 u108 u109 u110 u111 u112 u113 u114 u115 u116 u117 u118 u119 u120 u121 u122 u123 u124 u125 u126 u127 u128 u129 u130 u131 u132 u133 u134 u135 u136 u137 u138 u139 u140 u141 u142 u143 u144 u145 u146 u147 u148 u149 u150 u151 u152 u153 u154 u155 u156 u157 u158 u159 u160 u161 u162 u163 u164 u165 u166 u167 u168 u169 u170 u171 u172 u173 u174 u175 u176 u177 u178 u179 u180 u181 u182 u183 u184 u185 u186 u187 u188 u189 u190 u191 u192 u193 u194 u195 u196 u197 u198 u199 u200 u201 u202 u203 u204 u205 u206 u207 u208 u209 u210 u211 : Value) : (withTail 2 (dropSeq 13 rbBody) tl).wp Tryz.prog (bodyPost Tryz.prog Tryz.f20 R0) ⟨#[u0, .pointer (some ⟨gb, 0, none⟩), .pointer (some ⟨gr, 0, none⟩), u3, u4, .pointer (some ⟨gF, 0, none⟩), .pointer (some ⟨ga, 0, none⟩), .pointer (some ⟨gf, 0, none⟩), .pointer (some ⟨gh, 0, none⟩), .pointer (some ⟨gq, 0, none⟩), .func (.func 56) #[] #[.pointer (some ⟨gq, 0, none⟩)], .func (.func 57) #[] #[.pointer (some ⟨gf, 0, none⟩)], u12, u13, u14, u15, u16, u17, u18, u19, u20, u21, u22, u23, u24, u25, u26, u27, u28, u29, u30, u31, u32, u33, u34, u35, u36, u37, u38, u39, u40, u41, u42, u43, u44, u45, u46, u47, u48, u49, u50, u51, u52, u53, u54, u55, u56, u57, u58, u59, u60, u61, u62, u63, u64, u65, u66, u67, u68, u69, u70, u71, u72, u73, u74, u75, u76, u77, u78, u79, u80, u81, u82, u83, u84, u85, u86, u87, u88, u89, u90, u91, u92, u93, u94, u95, u96, u97, u98, u99, u100, u101, u102, u103, u104, u105, u106, u107, u108, u109, u110, u111, u112, u113, u114, u115, u116, u117, u118, u119, u120, u121, u122, u123, u124, u125, u126, u127, u128, u129, u130, u131, u132, u133, u134, u135, u136, u137, u138, u139, u140, u141, u142, u143, u144, u145, u146, u147, u148, u149, u150, u151, u152, u153, u154, u155, u156, u157, u158, u159, u160, u161, u162, u163, u164, u165, u166, u167, u168, u169, u170, u171, u172, u173, u174, u175, u176, u177, u178, u179, u180, u181, u182, u183, u184, u185, u186, u187, u188, u189, u190, u191, u192, u193, u194, u195, u196, u197, u198, u199, u200, u201, u202, u203, u204, u205, u206, u207, u208, u209, u210, u211], []⟩ w := by
  show Code.wp _ (.seq _ (.seq _ tl)) _ _ _
  have HT := Hid.mk hT
  have HB := Hid.mk hb
  clear hT hb
  have i1 := hI.numJ HB.out 4
  have l0 := Hid.mk hI.n
  have hlt := numJ_lt b.data.toList HB.out S 4
  clear i1 hI
  have H0 := Hid.mk h
  clear h
  have AH1 := Hid.mk (num2_any gb gh gf ga gq 4 b S w H0.out.st H0.out.q H0.out.hqn h1000 HB.out (by omega) (by have := l0.out; omega))
  go_wp2_with fail
  refine AH1.out.mono ?_
  rintro e w1 ⟨rfl, sH1, tH1⟩
  have H1 := Hid.mk (H0.out.call sH1 tH1)
  clear sH1 tH1 AH1 H0
  obtain ⟨_, _, d2, _⟩ := H1.out.cells
  have hn16 : ((numJ b.data.toList S 4).1 : Int) ≤ 15 := by omega
  clear hlt
  cases fa
  · by_cases hc : (numJ b.data.toList S 4).1 ≤ 8
    · have h8 : ((numJ b.data.toList S 4).1 : Int) ≤ 8 := by omega
      have HN : Hid (dj2 b.data.toList S false = mustM (numJ b.data.toList S 4).2 true 4) := Hid.mk (by unfold dj2; rw [show (false || decide ((numJ b.data.toList S 4).1 ≤ 8)) = true by simpa using hc])
      have AH2 := Hid.mk (must3_any gb gh gf ga b (numJ b.data.toList S 4).2 (true) 4 w1 H1.out.st)
      go_wp2_with fail
      refine AH2.out.mono ?_
      rintro e w2 ⟨rfl, sH2, tH2⟩
      have H2 := Hid.mk (H1.out.call sH2 tH2)
      clear sH2 tH2 AH2 H1
      go_wp2_with fail
      apply HT.out
      rw [HN.out]
      exact H2.out
    · have h8 : decide (((numJ b.data.toList S 4).1 : Int) ≤ 8) = false := by simp; omega
      have HN : Hid (dj2 b.data.toList S false = mustM (numJ b.data.toList S 4).2 false 4) := Hid.mk (by unfold dj2; rw [show (false || decide ((numJ b.data.toList S 4).1 ≤ 8)) = false by simpa using hc])
      have AH2 := Hid.mk (must3_any gb gh gf ga b (numJ b.data.toList S 4).2 (false) 4 w1 H1.out.st)
      go_wp2_with fail
      refine AH2.out.mono ?_
      rintro e w2 ⟨rfl, sH2, tH2⟩
      have H2 := Hid.mk (H1.out.call sH2 tH2)
      clear sH2 tH2 AH2 H1
      go_wp2_with fail
      apply HT.out
      rw [HN.out]
      exact H2.out
  · have HN : Hid (dj2 b.data.toList S true = mustM (numJ b.data.toList S 4).2 true 4) := Hid.mk (by unfold dj2; rw [show (true || decide ((numJ b.data.toList S 4).1 ≤ 8)) = true from rfl])
    have AH2 := Hid.mk (must3_any gb gh gf ga b (numJ b.data.toList S 4).2 (true) 4 w1 H1.out.st)
    go_wp2_with fail
    refine AH2.out.mono ?_
    rintro e w2 ⟨rfl, sH2, tH2⟩
    have H2 := Hid.mk (H1.out.call sH2 tH2)
    clear sH2 tH2 AH2 H1
    go_wp2_with fail
    apply HT.out
    rw [HN.out]
    exact H2.out
end Bw
end Go.Proofs.YtemohjamcdkcmaaGreatDoor
