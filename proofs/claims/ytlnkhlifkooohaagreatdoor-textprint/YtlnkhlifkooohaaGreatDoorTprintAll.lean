/- What TextPrint answers: true. -/
import Derived.Test.YtlnkhlifkooohaaGreatDoorRefFrameA
import Derived.Test.YtlnkhlifkooohaaGreatDoorRefFrameB
import Derived.Test.YtlnkhlifkooohaaGreatDoorRows
import Derived.Test.YtlnkhlifkooohaaGreatDoorTxF1
import Derived.Lib.LaidU8
import Derived.Shelf.Vars
import Derived.Test.YtlnkhlifkooohaaGreatDoorFrSmall
import Derived.Test.YtlnkhlifkooohaaGreatDoorIsRow
import Derived.Test.YtlnkhlifkooohaaGreatDoorMsgRow
import Derived.ChangeSlices
import Derived.OpenShut
import Derived.Test.YtlnkhlifkooohaaGreatDoorTxQ
namespace Go.Proofs.YtlnkhlifkooohaaGreatDoor
open Go.ChangeShapes Go.WideShapes Go.ChangeAt Go.RowKit
namespace Bw
open Bm Cm

theorem checkFrame_any (id : Int) (lo fa re : Bool) (sz : Int) (a : Option Addr) (len cap : Nat) (w : World) (hlen : len ≤ 9223372036854775807) :
    Calls Tryz.prog 14 #[frameV id lo fa re sz a len cap] w fun e w' => e = .returned (.int .i64 (frEn id lo fa re sz len)) ∧ Below w.heap.size w w' := by
  cases lo <;> cases fa <;> cases re
  · exact checkFrame_snd id sz a len cap w hlen
  · exact checkFrame_snr id sz a len cap w hlen
  · exact checkFrame_sfd id sz a len cap w hlen
  · exact checkFrame_sfr id sz a len cap w hlen
  · exact checkFrame_lnd id sz a len cap w hlen
  · exact checkFrame_lnr id sz a len cap w hlen
  · exact checkFrame_lfd id sz a len cap w hlen
  · exact checkFrame_lfr id sz a len cap w hlen
end Bw
end Go.Proofs.YtlnkhlifkooohaaGreatDoor
namespace Go.Proofs.YtlnkhlifkooohaaGreatDoor
open Go.ChangeShapes Go.WideShapes Go.ChangeAt Go.RowKit
namespace Bw
theorem pow_eq : Rows.laid_internal_strconv_uint64pow10 (H := Unit) = Lib.tabData .u64 Lib.pow10Tab := by kernel_rfl
theorem pow_t : Tryz.prog.underlying 219 = some (.array 20 145) := by kernel_rfl
theorem pow_c : Tryz.prog.cellsOf 219 = 20 := by kernel_rfl
theorem pow_c1 : Tryz.prog.cellsOf 145 = 1 := by kernel_rfl
theorem pow_g : Tryz.prog.globalNamed "internal/strconv.uint64pow10" = some 1 := by kernel_rfl
theorem pow_y : (Tryz.prog.globals[1]?).map (·.type) = some 219 := by kernel_rfl
theorem pow_of {W : World} {laid : List (String × DataW Unit)} (hL : laidMet Tryz.prog laid W)
    (h1 : ("internal/strconv.uint64pow10", Rows.laid_internal_strconv_uint64pow10) ∈ laid) : Lib.TabIs Tryz.prog W "internal/strconv.uint64pow10" .u64 Lib.pow10Tab := by
  obtain ⟨g, t, cs, fuel, p, hg, hty, hvar, hd⟩ := Lib.laidMet.reads hL h1
  obtain rfl := Option.some.inj (pow_g.symm.trans hg)
  obtain rfl := Option.some.inj (pow_y.symm.trans hty)
  rw [pow_eq] at hd
  have hcs := Lib.cells_of_tab pow_t Tryz.underlying145 pow_c1 pow_c hd
  unfold Lib.TabIs
  rw [hvar]
  congr 1
  apply Array.ext'
  rw [hcs]
theorem max_of {W : World} (hsh : W.ShapedOpen Tryz.prog) : ∃ m, W.cell? ⟨2, 0, none⟩ = some (.int .i64 m) :=
  cell_of_shapedOpen_int (g := 2) (t := 3) (zero := #[.int .i64 0]) (k := .i64) hsh (of_decide_eq_true (by kernel_rfl)) (by kernel_rfl) rfl (by kernel_rfl) (by kernel_rfl) Tryz.underlying3
end Bw
end Go.Proofs.YtlnkhlifkooohaaGreatDoor
namespace Go.Proofs.YtlnkhlifkooohaaGreatDoor
open Go.ChangeShapes Go.WideShapes Go.ChangeAt Go.RowKit
namespace Bw
theorem fsz_eq : Rows.laid_omnibus_frame_sizes (H := Unit) = Lib.tabData .i64 sizesI := by kernel_rfl
theorem fsz_t : Tryz.prog.underlying 193 = some (.array 16 3) := by kernel_rfl
theorem fsz_c : Tryz.prog.cellsOf 193 = 16 := by kernel_rfl
theorem fsz_c1 : Tryz.prog.cellsOf 3 = 1 := by kernel_rfl
theorem fsz_g : Tryz.prog.globalNamed "omnibus/frame.sizes" = some 0 := by kernel_rfl
theorem fsz_y : (Tryz.prog.globals[0]?).map (·.type) = some 193 := by kernel_rfl
theorem sizes_of {W : World} {laid : List (String × DataW Unit)} (hL : laidMet Tryz.prog laid W)
    (h1 : ("omnibus/frame.sizes", Rows.laid_omnibus_frame_sizes) ∈ laid) : SizesAt W := by
  obtain ⟨g, t, cs, fuel, p, hg, hty, hvar, hd⟩ := Lib.laidMet.reads hL h1
  obtain rfl := Option.some.inj (fsz_g.symm.trans hg)
  obtain rfl := Option.some.inj (fsz_y.symm.trans hty)
  rw [fsz_eq] at hd
  have hcs := Lib.cells_of_tab fsz_t Tryz.underlying3 fsz_c1 fsz_c hd
  intro i hi
  have := World.var?_cell hg hvar i
  rw [this, ← Array.getElem?_toList, hcs]
  rw [List.getElem?_map, List.getElem?_eq_getElem hi]
  simp [List.getD, hi]
end Bw
end Go.Proofs.YtlnkhlifkooohaaGreatDoor
namespace Go.Proofs.YtlnkhlifkooohaaGreatDoor
open Go.ChangeShapes Go.WideShapes Go.ChangeAt Go.RowKit
namespace Bw
open Sm
theorem mnine {l : List Value} (h : l.length = 9) : ∃ c0 c1 c2 c3 c4 c5 c6 c7 c8, l = [c0, c1, c2, c3, c4, c5, c6, c7, c8] := by
  match l, h with
  | [c0, c1, c2, c3, c4, c5, c6, c7, c8], _ => exact ⟨c0, c1, c2, c3, c4, c5, c6, c7, c8, rfl⟩
theorem mthree {l : List Value} (h : l.length = 3) : ∃ c0 c1 c2, l = [c0, c1, c2] := by
  match l, h with
  | [c0, c1, c2], _ => exact ⟨c0, c1, c2, rfl⟩
theorem msix {l : List Value} (h : l.length = 6) : ∃ c0 c1 c2 c3 c4 c5, l = [c0, c1, c2, c3, c4, c5] := by
  match l, h with
  | [c0, c1, c2, c3, c4, c5], _ => exact ⟨c0, c1, c2, c3, c4, c5, rfl⟩
theorem msig_c : Tryz.prog.cellsOf 42 = 9 := by kernel_rfl
theorem mrd_c : Tryz.prog.cellsOf 44 = 3 := by kernel_rfl
theorem mmsg_c : Tryz.prog.cellsOf 24 = 6 := by kernel_rfl
theorem mint_c1 : Tryz.prog.cellsOf 3 = 1 := by kernel_rfl
theorem mbool_c1 : Tryz.prog.cellsOf 4 = 1 := by kernel_rfl
theorem mstr_c1 : Tryz.prog.cellsOf 9 = 1 := by kernel_rfl
theorem mrow_c1 : Tryz.prog.cellsOf 22 = 1 := by kernel_rfl
set_option maxRecDepth 100000 in
theorem open_sig_cells {H : Type} {enc : TypeId × Value → H} {W : World} {fuel : Nat} {cs : List Value} {x : DataW H × List MemPlace} (hcs : cs.length = 9)
    (hf : DataW.trod enc Tryz.prog W 0 (fun _ => true) true fuel 42 cs = some x) : ∃ s : Sig, cs = sgCl s ∧ wfS s := by
  obtain ⟨c0, c1, c2, c3, c4, c5, c6, c7, c8, rfl⟩ := mnine hcs
  obtain ⟨xs, n, _, rfl, _, hlen, hF⟩ := DataW.trod_struct Tryz.underlying42 hf
  have hnn : xs.length = 9 := hlen
  have g : ∀ i, i < 9 → ∃ y, xs[i]? = some y := fun i hi => ⟨xs[i]'(by omega), List.getElem?_eq_getElem (by omega)⟩
  obtain ⟨y0, e0⟩ := g 0 (by omega)
  have f0 := hF 0 _ rfl
  rw [e0] at f0
  obtain ⟨nm, q0, _, w0⟩ := DataW.trod_string Tryz.underlying9 f0
  have p0 : ([c0, c1, c2, c3, c4, c5, c6, c7, c8].drop 0).take (Tryz.prog.cellsOf 9) = [.string nm] := q0
  rw [mstr_c1] at p0
  have r0 : c0 = .string nm := by simpa using p0
  obtain ⟨y1, e1⟩ := g 1 (by omega)
  have f1 := hF 1 _ rfl
  rw [e1] at f1
  obtain ⟨st, q1, _, w1⟩ := DataW.trod_int Tryz.underlying3 f1
  have p1 : ([c0, c1, c2, c3, c4, c5, c6, c7, c8].drop 1).take (Tryz.prog.cellsOf 3) = [.int .i64 st] := q1
  rw [mint_c1] at p1
  have r1 : c1 = .int .i64 st := by simpa using p1
  obtain ⟨y2, e2⟩ := g 2 (by omega)
  have f2 := hF 2 _ rfl
  rw [e2] at f2
  obtain ⟨sz, q2, _, w2⟩ := DataW.trod_int Tryz.underlying3 f2
  have p2 : ([c0, c1, c2, c3, c4, c5, c6, c7, c8].drop 2).take (Tryz.prog.cellsOf 3) = [.int .i64 sz] := q2
  rw [mint_c1] at p2
  have r2 : c2 = .int .i64 sz := by simpa using p2
  obtain ⟨y3, e3⟩ := g 3 (by omega)
  have f3 := hF 3 _ rfl
  rw [e3] at f3
  obtain ⟨bk, q3, _⟩ := DataW.trod_bool Tryz.underlying4 f3
  have p3 : ([c0, c1, c2, c3, c4, c5, c6, c7, c8].drop 3).take (Tryz.prog.cellsOf 4) = [.bool bk] := q3
  rw [mbool_c1] at p3
  have r3 : c3 = .bool bk := by simpa using p3
  obtain ⟨y4, e4⟩ := g 4 (by omega)
  have f4 := hF 4 _ rfl
  rw [e4] at f4
  obtain ⟨sg, q4, _⟩ := DataW.trod_bool Tryz.underlying4 f4
  have p4 : ([c0, c1, c2, c3, c4, c5, c6, c7, c8].drop 4).take (Tryz.prog.cellsOf 4) = [.bool sg] := q4
  rw [mbool_c1] at p4
  have r4 : c4 = .bool sg := by simpa using p4
  obtain ⟨y5, e5⟩ := g 5 (by omega)
  have f5 := hF 5 _ rfl
  rw [e5] at f5
  obtain ⟨mu, q5, _, w5⟩ := DataW.trod_int Tryz.underlying3 f5
  have p5 : ([c0, c1, c2, c3, c4, c5, c6, c7, c8].drop 5).take (Tryz.prog.cellsOf 3) = [.int .i64 mu] := q5
  rw [mint_c1] at p5
  have r5 : c5 = .int .i64 mu := by simpa using p5
  obtain ⟨y6, e6⟩ := g 6 (by omega)
  have f6 := hF 6 _ rfl
  rw [e6] at f6
  obtain ⟨di, q6, _, w6⟩ := DataW.trod_int Tryz.underlying3 f6
  have p6 : ([c0, c1, c2, c3, c4, c5, c6, c7, c8].drop 6).take (Tryz.prog.cellsOf 3) = [.int .i64 di] := q6
  rw [mint_c1] at p6
  have r6 : c6 = .int .i64 di := by simpa using p6
  obtain ⟨y7, e7⟩ := g 7 (by omega)
  have f7 := hF 7 _ rfl
  rw [e7] at f7
  obtain ⟨ad, q7, _, w7⟩ := DataW.trod_int Tryz.underlying3 f7
  have p7 : ([c0, c1, c2, c3, c4, c5, c6, c7, c8].drop 7).take (Tryz.prog.cellsOf 3) = [.int .i64 ad] := q7
  rw [mint_c1] at p7
  have r7 : c7 = .int .i64 ad := by simpa using p7
  obtain ⟨y8, e8⟩ := g 8 (by omega)
  have f8 := hF 8 _ rfl
  rw [e8] at f8
  obtain ⟨ky, q8, _, w8⟩ := DataW.trod_int Tryz.underlying3 f8
  have p8 : ([c0, c1, c2, c3, c4, c5, c6, c7, c8].drop 8).take (Tryz.prog.cellsOf 3) = [.int .i64 ky] := q8
  rw [mint_c1] at p8
  have r8 : c8 = .int .i64 ky := by simpa using p8
  have hst : -9223372036854775808 ≤ st ∧ st ≤ 9223372036854775807 := by
    simpa [Lit.wf, IntKind.min, IntKind.max, IntKind.signed, IntKind.bits] using w1
  refine ⟨⟨nm, st, sz, bk, sg, mu, di, ad, ky⟩, ?_, hst, by unfold maxLen at w0; exact Nat.le_trans w0 (by decide)⟩
  unfold sgCl
  rw [r0, r1, r2, r3, r4, r5, r6, r7, r8]
set_option maxRecDepth 100000 in
theorem open_rd_cells {H : Type} {enc : TypeId × Value → H} {W : World} {fuel : Nat} {cs : List Value} {x : DataW H × List MemPlace} (hcs : cs.length = 3)
    (hf : DataW.trod enc Tryz.prog W 0 (fun _ => true) true fuel 44 cs = some x) : ∃ r : Rd, cs = rdCl r ∧ r.nm.size ≤ maxLen := by
  obtain ⟨c0, c1, c2, rfl⟩ := mthree hcs
  obtain ⟨xs, n, _, rfl, _, hlen, hF⟩ := DataW.trod_struct Tryz.underlying44 hf
  have hnn : xs.length = 3 := hlen
  have g : ∀ i, i < 3 → ∃ y, xs[i]? = some y := fun i hi => ⟨xs[i]'(by omega), List.getElem?_eq_getElem (by omega)⟩
  obtain ⟨y0, e0⟩ := g 0 (by omega)
  have f0 := hF 0 _ rfl
  rw [e0] at f0
  obtain ⟨nm, q0, _, w0⟩ := DataW.trod_string Tryz.underlying9 f0
  have p0 : ([c0, c1, c2].drop 0).take (Tryz.prog.cellsOf 9) = [.string nm] := q0
  rw [mstr_c1] at p0
  have r0 : c0 = .string nm := by simpa using p0
  obtain ⟨y1, e1⟩ := g 1 (by omega)
  have f1 := hF 1 _ rfl
  rw [e1] at f1
  obtain ⟨num, q1, _, w1⟩ := DataW.trod_int Tryz.underlying3 f1
  have p1 : ([c0, c1, c2].drop 1).take (Tryz.prog.cellsOf 3) = [.int .i64 num] := q1
  rw [mint_c1] at p1
  have r1 : c1 = .int .i64 num := by simpa using p1
  obtain ⟨y2, e2⟩ := g 2 (by omega)
  have f2 := hF 2 _ rfl
  rw [e2] at f2
  obtain ⟨den, q2, _, w2⟩ := DataW.trod_int Tryz.underlying3 f2
  have p2 : ([c0, c1, c2].drop 2).take (Tryz.prog.cellsOf 3) = [.int .i64 den] := q2
  rw [mint_c1] at p2
  have r2 : c2 = .int .i64 den := by simpa using p2
  refine ⟨⟨nm, num, den⟩, ?_, w0⟩
  unfold rdCl
  rw [r0, r1, r2]
/-- a row of elements of n cells that came in, each as data -/
theorem open_row {H : Type} {enc : TypeId × Value → H} {α : Type} (cl : α → List Value) (Q : α → Prop) (T E n : Nat) (hT : Tryz.prog.underlying T = some (.slice E)) (hE : Tryz.prog.cellsOf E = n) {W : World} {fuel : Nat} {a : Option Addr} {len cap : Nat} {x : DataW H × List MemPlace}
    (hc : ∀ fuel cs x, cs.length = n → DataW.trod enc Tryz.prog W 0 (fun _ => true) true fuel E cs = some x → ∃ y : α, cs = cl y ∧ Q y)
    (hf : DataW.trod enc Tryz.prog W 0 (fun _ => true) true fuel T [.slice a len cap] = some x) : ∃ l : List α, IsCl cl n W a len cap l ∧ ∀ y ∈ l, Q y := by
  rcases DataW.trod_slice hT hf with ⟨h0, _⟩ | ⟨y, len', cp, elems, rest, m, _, h0, _, _, hl, hm, hlen, hel, _, _⟩
  · simp only [List.cons.injEq, and_true, Value.slice.injEq] at h0
    obtain ⟨rfl, rfl, rfl⟩ := h0
    exact ⟨[], ⟨rfl, Nat.le_refl _, Nat.zero_le _, fun _ => rfl, fun _ h => by cases h⟩, fun y hy => by cases hy⟩
  · simp only [List.cons.injEq, and_true, Value.slice.injEq] at h0
    obtain ⟨rfl, rfl, rfl⟩ := h0
    have each : ∀ i, i < len → ∃ v : α, (∀ k, k < n → W.cell? (y.add (i * n + k)) = (cl v)[k]?) ∧ Q v := by
      intro i hi
      have h1 := hel i hi
      rw [List.getElem?_eq_getElem (by omega), Option.bind_eq_some_iff] at h1
      obtain ⟨cs, h2, h3⟩ := h1
      rw [hE] at h2
      have h4 := World.cells?_some h2
      obtain ⟨v, rfl, hv⟩ := hc _ cs _ (by exact h4.2.1) h3
      refine ⟨v, fun k hk => ?_, hv⟩
      have h5 := h4.2.2 k hk
      have e : (y.add (i * n)).add k = y.add (i * n + k) := by
        first | exact Addr.add_add _ _ _ | (unfold Addr.add; simp; omega)
      rw [e] at h5
      rw [h5]
    by_cases hz : len = 0
    · subst hz
      exact ⟨[], ⟨rfl, hl, hm, (fun h => by cases h), fun _ _ i hi => absurd hi (Nat.not_lt_zero _)⟩, fun y hy => by cases hy⟩
    · let z : α := (each 0 (by omega)).choose
      let g : Nat → α := fun i => if h : i < len then (each i h).choose else z
      have hg : ∀ i (h : i < len), (∀ k, k < n → W.cell? (y.add (i * n + k)) = (cl (g i))[k]?) ∧ Q (g i) := by
        intro i h
        have e : g i = (each i h).choose := by show (if h : i < len then _ else _) = _; rw [dif_pos h]
        rw [e]
        exact (each i h).choose_spec
      refine ⟨(List.range len).map g, ⟨by simp, hl, hm, (fun h => by cases h), ?_⟩, ?_⟩
      · intro z hz i hi k hk
        cases hz
        simp only [List.length_map, List.length_range] at hi
        simp only [List.getElem_map, List.getElem_range]
        exact (hg i hi).1 k hk
      · intro v hv
        obtain ⟨i, hi, rfl⟩ := List.mem_map.1 hv
        exact (hg i (List.mem_range.1 hi)).2
set_option maxRecDepth 100000 in
theorem open_sigs {H : Type} {enc : TypeId × Value → H} {W : World} {fuel : Nat} {a : Option Addr} {n cap : Nat} {x : DataW H × List MemPlace}
    (hf : DataW.trod enc Tryz.prog W 0 (fun _ => true) true fuel 22 [.slice a n cap] = some x) : ∃ l, IsSigs W a n cap l ∧ ∀ s ∈ l, wfS s :=
  open_row sgCl wfS 22 42 9 Tryz.underlying22 msig_c (fun _ _ _ hl h => open_sig_cells hl h) hf
set_option maxRecDepth 100000 in
theorem open_msg_cells {H : Type} {enc : TypeId × Value → H} {W : World} {fuel : Nat} {cs : List Value} {x : DataW H × List MemPlace} (hcs : cs.length = 6)
    (hf : DataW.trod enc Tryz.prog W 0 (fun _ => true) true fuel 24 cs = some x) : ∃ v : MsV, cs = msCl v ∧ MsIn W v := by
  obtain ⟨c0, c1, c2, c3, c4, c5, rfl⟩ := msix hcs
  obtain ⟨xs, n, _, rfl, _, hlen, hF⟩ := DataW.trod_struct Tryz.underlying24 hf
  have hnn : xs.length = 6 := hlen
  have g : ∀ i, i < 6 → ∃ y, xs[i]? = some y := fun i hi => ⟨xs[i]'(by omega), List.getElem?_eq_getElem (by omega)⟩
  obtain ⟨y0, e0⟩ := g 0 (by omega)
  have f0 := hF 0 _ rfl
  rw [e0] at f0
  obtain ⟨id, q0, _, w0⟩ := DataW.trod_int Tryz.underlying3 f0
  have p0 : ([c0, c1, c2, c3, c4, c5].drop 0).take (Tryz.prog.cellsOf 3) = [.int .i64 id] := q0
  rw [mint_c1] at p0
  have r0 : c0 = .int .i64 id := by simpa using p0
  obtain ⟨y1, e1⟩ := g 1 (by omega)
  have f1 := hF 1 _ rfl
  rw [e1] at f1
  obtain ⟨lo, q1, _⟩ := DataW.trod_bool Tryz.underlying4 f1
  have p1 : ([c0, c1, c2, c3, c4, c5].drop 1).take (Tryz.prog.cellsOf 4) = [.bool lo] := q1
  rw [mbool_c1] at p1
  have r1 : c1 = .bool lo := by simpa using p1
  obtain ⟨y2, e2⟩ := g 2 (by omega)
  have f2 := hF 2 _ rfl
  rw [e2] at f2
  obtain ⟨nm, q2, _, w2⟩ := DataW.trod_string Tryz.underlying9 f2
  have p2 : ([c0, c1, c2, c3, c4, c5].drop 2).take (Tryz.prog.cellsOf 9) = [.string nm] := q2
  rw [mstr_c1] at p2
  have r2 : c2 = .string nm := by simpa using p2
  obtain ⟨y3, e3⟩ := g 3 (by omega)
  have f3 := hF 3 _ rfl
  rw [e3] at f3
  obtain ⟨size, q3, _, w3⟩ := DataW.trod_int Tryz.underlying3 f3
  have p3 : ([c0, c1, c2, c3, c4, c5].drop 3).take (Tryz.prog.cellsOf 3) = [.int .i64 size] := q3
  rw [mint_c1] at p3
  have r3 : c3 = .int .i64 size := by simpa using p3
  obtain ⟨y4, e4⟩ := g 4 (by omega)
  have f4 := hF 4 _ rfl
  rw [e4] at f4
  obtain ⟨ch, q4, _, w4⟩ := DataW.trod_int Tryz.underlying3 f4
  have p4 : ([c0, c1, c2, c3, c4, c5].drop 4).take (Tryz.prog.cellsOf 3) = [.int .i64 ch] := q4
  rw [mint_c1] at p4
  have r4 : c4 = .int .i64 ch := by simpa using p4
  obtain ⟨y5, e5⟩ := g 5 (by omega)
  have f5 := hF 5 _ rfl
  rw [e5] at f5
  have hrow : ∃ a n cap l, c5 = .slice a n cap ∧ IsSigs W a n cap l ∧ ∀ s ∈ l, wfS s := by
    have f5' : DataW.trod enc Tryz.prog W 0 (fun _ => true) true n 22 (([c0, c1, c2, c3, c4, c5].drop 5).take (Tryz.prog.cellsOf 22)) = some y5 := f5
    rw [mrow_c1] at f5'
    have e5' : ([c0, c1, c2, c3, c4, c5].drop 5).take 1 = [c5] := rfl
    rw [e5'] at f5'
    have hsl : ∃ a n cap, c5 = .slice a n cap := by
      rcases DataW.trod_slice Tryz.underlying22 f5' with ⟨h0, _⟩ | ⟨y, len', cp, elems, rest, m, _, h0, _⟩
      · exact ⟨none, 0, 0, by simpa using h0⟩
      · exact ⟨some y, len', cp, by simpa using h0⟩
    obtain ⟨a, k, cap, rfl⟩ := hsl
    obtain ⟨l, h1, h2⟩ := open_sigs f5'
    exact ⟨a, k, cap, l, rfl, h1, h2⟩
  obtain ⟨a, k, cap, l, r5, h1, h2⟩ := hrow
  refine ⟨⟨⟨id, lo, nm, size, ch, l⟩, a, k, cap⟩, ?_, ⟨by unfold maxLen at w2; exact Nat.le_trans w2 (by decide), h1, h2⟩⟩
  unfold msCl
  rw [r0, r1, r2, r3, r4, r5]
set_option maxRecDepth 100000 in
theorem open_msg {H : Type} {enc : TypeId × Value → H} {W : World} {base : Nat} {v : Value} {fuel : Nat} {x : DataW H × List MemPlace} (hv : Value.okWide Tryz.prog W .any base 24 v)
    (hf : DataW.trod enc Tryz.prog W 0 (fun _ => true) true fuel 24 v.cells.toList = some x) : ∃ y : MsV, v = msV y ∧ MsIn W y := by
  obtain ⟨cs, rfl, hcs⟩ := okWide_struct Tryz.underlying24 hv
  rw [mmsg_c] at hcs
  have hcv : (Value.agg cs).cells.toList = cs.toList := rfl
  rw [hcv] at hf
  obtain ⟨y, hy, hi⟩ := open_msg_cells (by simpa using hcs) hf
  refine ⟨y, ?_, hi⟩
  unfold msV
  congr 1
  apply Array.toList_inj.1
  exact hy
set_option maxRecDepth 100000 in
theorem open_rds {H : Type} {enc : TypeId × Value → H} {W : World} {fuel : Nat} {a : Option Addr} {n cap : Nat} {x : DataW H × List MemPlace}
    (hf : DataW.trod enc Tryz.prog W 0 (fun _ => true) true fuel 25 [.slice a n cap] = some x) : ∃ l, IsRds W a n cap l ∧ ∀ r ∈ l, r.nm.size ≤ maxLen :=
  open_row rdCl (fun r => r.nm.size ≤ maxLen) 25 44 3 Tryz.underlying25 mrd_c (fun _ _ _ hl h => open_rd_cells hl h) hf
end Bw
end Go.Proofs.YtlnkhlifkooohaaGreatDoor
namespace Go.Proofs.YtlnkhlifkooohaaGreatDoor
open Go.ChangeShapes Go.WideShapes Go.ChangeAt Go.RowKit
namespace Bw
open Sm
set_option maxRecDepth 100000 in
theorem open_msgs {H : Type} {enc : TypeId × Value → H} {W : World} {fuel : Nat} {a : Option Addr} {n cap : Nat} {x : DataW H × List MemPlace}
    (hf : DataW.trod enc Tryz.prog W 0 (fun _ => true) true fuel 51 [.slice a n cap] = some x) : ∃ l, IsMsgs W a n cap l := by
  obtain ⟨l, h1, h2⟩ := open_row msCl (MsIn W) 51 24 6 Tryz.underlying51 mmsg_c (fun _ _ _ hl h => open_msg_cells hl h) hf
  exact ⟨l, h1, h2⟩
end Bw
end Go.Proofs.YtlnkhlifkooohaaGreatDoor
namespace Go.Proofs.YtlnkhlifkooohaaGreatDoor
open Go.ChangeShapes Go.WideShapes Go.ChangeAt Go.RowKit
namespace textPrint
open Bw
theorem walk (a : Option Addr) (len cap : Nat) (l : List MsV) (w : World) (hF : IsMsgs w a len cap l) (hL : laidMet Tryz.prog Rows.textPrintRow.laid w) (hsh : w.ShapedOpen Tryz.prog) :
    Calls Tryz.prog 5 #[.slice a len cap] w fun e w' => e = .returned (.bool true) ∧ Below w.heap.size w w' := by
  have hS := sizes_of hL (by simp [Rows.textPrintRow])
  have hT : TxT w := ⟨pow_of hL (by simp [Rows.textPrintRow]), max_of hsh⟩
  by_cases hE : chkA l = 0
  · exact tprint_ok checkFrame_any a len cap l w hF hS hT hE
  · exact tprint_bad checkFrame_any a len cap l w hF hS hT hE
end textPrint
end Go.Proofs.YtlnkhlifkooohaaGreatDoor
