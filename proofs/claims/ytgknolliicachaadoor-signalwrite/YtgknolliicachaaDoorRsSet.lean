/- What the document's own SetRaw answers, and slices.Clone of bytes. -/
import Derived.Test.YtgknolliicachaaDoorRsRaw
import Derived.Test.YtgknolliicachaaDoorSgWrite
import Derived.Deep.RegionHeld
namespace Go.Proofs.YtgknolliicachaaDoor
open Go.ChangeShapes Go.WideShapes Go.ChangeAt Go.RowKit Go.Sort
namespace Bw
open Sm
theorem eqlS_nil (w : World) (cap : Nat) : (binOp .eql 35 (.slice none 0 cap) (.slice none 0 0)).run Tryd.prog w = .ok (.bool true) w :=
  Lib.run_eql_slice_nil w 35 5 none 0 cap 0 0 Tryd.underlying35
set_option maxHeartbeats 4000000 in
set_option maxRecDepth 100000 in
theorem cloneD_nil (w : World) (cap : Nat) :
    Calls Tryd.prog 19 #[.slice none 0 cap] w fun e w' => e = .returned (.slice none 0 0) ∧ w' = w := by
  have he := eqlS_nil w cap
  go_enter Tryd.func19, Tryd.ntmps19
  go_wp2_with fail
  go_ret
  exact ⟨rfl, rfl⟩
set_option maxHeartbeats 4000000 in
set_option maxRecDepth 100000 in
theorem cloneD_some (x : Addr) (len cap : Nat) (dt : List UInt8) (w : World) (hY : IsBytes w (some x) len cap dt) (hlen : len ≤ 140737488351232) :
    Calls Tryd.prog 19 #[.slice (some x) len cap] w fun e w' => ∃ g c, e = .returned (.slice (some ⟨g, 0, none⟩) len c) ∧ w'.ownsRow w.heap.size 5 1 (.slice (some ⟨g, 0, none⟩) len c) len (cellsOf dt) ∧ Below w.heap.size w w' := by
  obtain ⟨i0, hi, hz0, hz1, hz2⟩ := info_parts info_u8
  have hB0 : Below w.heap.size w (w.alloc (.cells #[] 5)) := (Below.refl _ _).alloc (Nat.le_refl _) _
  have hY1 := isBytes_below hY hB0
  have hcl : (cellsOf dt).length = len * 1 := by rw [cellsOf_length, hY.1, Nat.mul_one]
  have hce := hY1.2.2.2.2 x rfl
  have hdl := hY.1
  have he := eqlS_some w x len cap
  have hcc : ∀ q u, (cellsOf dt)[q]? = some u → (w.alloc (.cells #[] 5)).cell? (x.add q) = some u := by
    intro q u hq
    have hq1 : q < dt.length := by
      rcases Nat.lt_or_ge q dt.length with hh | hh
      · exact hh
      · rw [List.getElem?_eq_none (by rw [cellsOf_length]; exact hh)] at hq; cases hq
    rw [hce q (by omega)]
    simp [cellsOf, hq1] at hq
    rw [← hq]; simp [List.getD, hq1]
  have HO := Hid.mk (show (w.alloc (.cells #[] 5)).ownsRow w.heap.size 5 1 (.slice (some ⟨w.heap.size, 0, none⟩) 0 0) 0 [] from World.ownsRow_made w #[] 0 (Nat.le_refl _) (Nat.zero_le _) rfl)
  have HB := Hid.mk hB0
  have HCC := Hid.mk hcc
  have HCL := Hid.mk hcl
  clear hY hB0 hY1 hcl hce hcc hdl
  go_enter Tryd.func19, Tryd.ntmps19
  go_wp2_with (at_builtin; refine wpList_append_own _ rfl (.tmp 5) (.tmp 6) 35 rfl w.heap.size 5 i0 (.int .u8 0) 1 1 Tryd.underlying35 hi hz0 hz1 hz2 rfl (by decide) _ _ _ rfl HO.out x len cap (cellsOf dt) rfl HCL.out HCC.out (by intro u hu; simp [cellsOf] at hu; obtain ⟨c, -, rfl⟩ := hu; rfl) (by unfold maxLen; omega) (by omega) (by simp) ?_; intro v3 w3 hown3 hgrow3 hnil3)
  rw [Nat.zero_add, List.nil_append] at hown3
  obtain ⟨g, c, rfl⟩ : ∃ g c, v3 = .slice (some ⟨g, 0, none⟩) len c := by
    rcases hown3.2 with ⟨h1, _⟩ | ⟨g, c, cur, h1, _⟩
    · have h2 := hnil3.1 h1
      cases h2.1
    · exact ⟨g, c, h1⟩
  have hB3 : Below w.heap.size w w3 := Below.grown HB.out hgrow3 (by simp) (fun q hq => (HO.out.lt q hq).1)
  go_ret
  exact ⟨g, c, rfl, hown3, hB3⟩
theorem put_doc : ((List.range 256).all fun c => (List.range 8).all fun k => (bits .or .u8 (c : Int) (2 ^ k) == (putN c k 1 : Int)) && (bits .and .u8 (c : Int) (255 - 2 ^ k) == (putN c k 0 : Int)) && (IntKind.u8.wrap (2 ^ k) == 2 ^ k) && decide ((2 : Int) ^ k ≤ 128)) = true := by kernel_rfl
theorem put_ops {c k : Nat} (hc : c < 256) (hk : k < 8) : bits .or .u8 (c : Int) (2 ^ k) = (putN c k 1 : Int) ∧ bits .and .u8 (c : Int) (255 - 2 ^ k) = (putN c k 0 : Int) ∧ IntKind.u8.wrap (2 ^ k) = 2 ^ k ∧ (2 : Int) ^ k ≤ 128 := by
  have h := List.all_eq_true.1 (List.all_eq_true.1 put_doc c (List.mem_range.2 hc)) k (List.mem_range.2 hk)
  simpa [and_assoc] using h
set_option maxHeartbeats 16000000 in
set_option maxRecDepth 100000 in
theorem setRaw_any (s : Sig) (st sz : Nat) (a : Option Addr) (len cap : Nat) (l : List UInt8) (r : Int) (w : World) (hD : IsBytes w a len cap l) (hR : Rt s st sz len) :
    Calls Tryd.prog 24 #[sgV s, .slice a len cap, .int .i64 r] w fun e w' => ∃ g c, e = .returned (.slice (some ⟨g, 0, none⟩) len c) ∧
      w'.ownsRow w.heap.size 5 1 (.slice (some ⟨g, 0, none⟩) len c) len (cellsOf (wrS s st sz l r)) ∧ Below w.heap.size w w' := by
  have HB := Hid.mk (sg_box w s)
  have HG := Hid.mk (SgAt.box w s)
  have h1 := hR.s1
  have h40 := hR.s40
  have hst := hR.hst
  have hsz := hR.hsz
  have hstb := hR.st_lt
  have hn64 := hR.n64
  have hP := fun W => placesOf_any s st sz W hst hsz (by omega) h1 h40
  have HPL := Hid.mk (fun (k : Nat) (hk : k < sz) => hR.pl_lt hk)
  unfold wrS
  obtain ⟨nm, sta, sza, bk, sg, mu, di, ad, ky⟩ := s
  simp only at hst hsz
  subst hst
  subst hsz
  unfold sgC at HB HG
  unfold sgV at hP ⊢
  simp only at HB HG hP HPL ⊢
  have HP := Hid.mk hP
  have a1 : (1 : Int) ≤ (sz : Int) := by omega
  have a2 : (sz : Int) ≤ 40 := by omega
  have hlen : (len : Int) ≤ 64 := by omega
  have hlen0 : 1 ≤ len := by omega
  have hlen1 : len ≤ 64 := by omega
  cases a with
  | none => exact absurd (hD.2.2.2.1 rfl) (by omega)
  | some x =>
  have HLL := Hid.mk hD.1
  have HCL := Hid.mk (fun W (hb : Below w.heap.size w W) => cloneD_some x len cap l W (isBytes_below hD hb) (by omega))
  clear hP hR hstb hn64 hD
  go_enter Tryd.func24, Tryd.ntmps24
  go_wp2_with fail
  with_reducible refine (HCL.out _ HB.out).mono ?_
  rintro e w1 ⟨g, c, rfl, hown, hb1⟩
  have hgl : g < w1.heap.size := by
    have := hown.cellAt 0 (by omega)
    rw [cells_at l 0 (by have := HLL.out; omega)] at this
    exact World.block_lt_of_cell? _ _ this
  have hgw : w.heap.size ≤ g := by
    rcases hown.2 with ⟨h0, _⟩ | ⟨g', cap', cur, hv, hg, _⟩
    · cases h0
    · cases hv; have := HB.out.size; omega
  have HO1 := Hid.mk (owns_baseP hown HB.out.size)
  have HB1 := Hid.mk (bl2 HB.out hb1)
  have HG1 := Hid.mk (HG.out.kept hb1)
  have HGL := Hid.mk hgl
  have HGW := Hid.mk hgw
  clear hown hb1 hgl hgw HB HG HCL
  obtain ⟨k0, k1, k2, k3, k4, k5, k6, k7, k8⟩ := HG1.out
  simp only at k0 k1 k2 k3 k4 k5 k6 k7 k8
  go_wp2_with fail
  with_reducible refine (HP.out _).mono ?_
  rintro e w2 ⟨g2, rfl, hg2, hown2, hb2⟩
  have HN := Hid.mk (own_place hown2)
  have HO2 := Hid.mk (ownsRow_below HO1.out hb2)
  have HB2 := Hid.mk (bl2 HB1.out hb2)
  have hne : g ≠ g2 := by have := HGL.out; omega
  clear hown2 hb2 hg2 HO1 HB1 HG1 HP k0 k1 k2 k3 k4 k5 k6 k7 k8
  go_wp2_with fail
  go_loopw [16] (fun i wr => ∃ k : Nat, k ≤ sz ∧ i = .int .i64 k ∧ Hid (wr.ownsRow w.heap.size 5 1 (.slice (some ⟨g, 0, none⟩) len c) len (cellsOf (wrK (plN bk st sz) (bitI r) l k))) ∧ Hid (∀ j, j < sz → wr.cell? ⟨g2, j, none⟩ = some (.int .i64 (plN bk st sz j : Int))) ∧ Hid (Below w.heap.size w wr)) (fun i _ => sz - (intOf i).toNat)
  case atStart => exact ⟨0, Nat.zero_le _, rfl, HO2, HN, HB2⟩
  case round =>
    clear HO2 HN HB2
    obtain ⟨k, hk, rfl, HOk, HNk, HBk⟩ := hrel
    by_cases hlt : k < sz
    · have hlt' : (k : Int) < (sz : Int) := by omega
      have hpc := HNk.out k hlt
      have hpl := HPL.out k hlt
      have hb := bitI_lt r k
      have hwr : wrK (plN bk st sz) (bitI r) l (k + 1) = putB (wrK (plN bk st sz) (bitI r) l k) (plN bk st sz k) (bitI r k) := rfl
      have HWR := Hid.mk hwr
      have hbit := op_bit r k
      have hLl : (wrK (plN bk st sz) (bitI r) l k).length = len := by rw [wrK_length]; exact HLL.out
      generalize wrK (plN bk st sz) (bitI r) l k = L at *
      generalize hpp : plN bk st sz k = p at *
      generalize bitI r k = b at *
      clear hpp
      obtain ⟨y, hy⟩ : ∃ y, y = (L.getD (p / 8) 0).toNat := ⟨_, rfl⟩
      have hy256 : y < 256 := by rw [hy]; exact UInt8.toNat_lt _
      have hk8 : p % 8 < 8 := by omega
      obtain ⟨t1, t2, t3, t4⟩ := put_ops hy256 hk8
      have hyb := putN_lt hy256 hk8 hb
      have hset := cells_set L p b (by rw [← hy]; exact hyb)
      have hat := cells_at L (p / 8) (by omega)
      rw [← hy] at hset hat
      have hc3 := HOk.out.cellAt (p / 8) (by omega)
      have hf3 := HOk.out.frozenAt (p / 8)
      rw [hat] at hc3
      have hstd := HOk.out.stored (p / 8) (.int .u8 (putN y (p % 8) b : Int))
      rw [hset, ← hwr] at hstd
      have HST := Hid.mk hstd
      obtain ⟨Q, hQ⟩ : ∃ Q : Int, Q = 2 ^ (p % 8) := ⟨_, rfl⟩
      have hQ0 : 0 < Q := by rw [hQ]; exact Int.pow_pos (by omega)
      rw [← hQ] at t1 t2 t3 t4
      have q5 : IntKind.u8.wrap (1 * 2 ^ (p % 8)) = Q := by rw [Int.one_mul, ← hQ]; exact t3
      have q6 : IntKind.u8.wrap (2 ^ (p % 8)) = Q := by rw [← hQ]; exact t3
      have hp8 : ((p : Int) / 8).toNat = p / 8 := by omega
      have hp9 : ((p : Int) % 8).toNat = p % 8 := by omega
      have hpl' : (p : Int) < 8 * (len : Int) := by omega
      have hy' : (y : Int) ≤ 255 := by omega
      have hbb : b = 0 ∨ b = 1 := by omega
      clear hwr hLl hy hy256 hk8 hset hat hstd hQ t3 hpl hb HWR
      rcases hbb with rfl | rfl
      · obtain ⟨Y, hY⟩ : ∃ Y, Y = putN y (p % 8) 0 := ⟨_, rfl⟩
        rw [← hY] at t2 hyb HST
        have hY' : (Y : Int) ≤ 255 := by omega
        clear hY t1 hyb
        go_wp2_with fail
        go_roundw
        case rel => exact ⟨k + 1, by omega, by go_num, Hid.mk HST.out.1, Hid.mk (fun j hj => by rw [World.cell?_setCell_far _ _ _ _ hne]; exact HNk.out j hj), Hid.mk (HBk.out.grown HST.out.2 HBk.out.size (fun q hq => by cases hq; exact HGW.out))⟩
        case measure => simp [intOf]; omega
      · obtain ⟨Y, hY⟩ : ∃ Y, Y = putN y (p % 8) 1 := ⟨_, rfl⟩
        rw [← hY] at t1 hyb HST
        have hY' : (Y : Int) ≤ 255 := by omega
        clear hY t2 hyb
        go_wp2_with fail
        go_roundw
        case rel => exact ⟨k + 1, by omega, by go_num, Hid.mk HST.out.1, Hid.mk (fun j hj => by rw [World.cell?_setCell_far _ _ _ _ hne]; exact HNk.out j hj), Hid.mk (HBk.out.grown HST.out.2 HBk.out.size (fun q hq => by cases hq; exact HGW.out))⟩
        case measure => simp [intOf]; omega
    · have e : k = sz := by omega
      subst e
      go_wp2_with fail
      go_ret
      exact ⟨g, c, rfl, HOk.out, HBk.out⟩
end Bw
end Go.Proofs.YtgknolliicachaaDoor
