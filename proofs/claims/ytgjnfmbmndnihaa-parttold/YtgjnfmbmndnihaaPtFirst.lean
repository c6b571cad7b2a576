/- What package part's firstPart and nextPart answer. -/
import Derived.Test.YtgjnfmbmndnihaaPtPart
import Derived.Deep.RegionHeld3
namespace Go.Proofs.Ytgjnfmbmndnihaa
open Go.ChangeShapes Go.WideShapes Go.ChangeAt Go.RowKit
namespace Bw
open Bm
theorem isBytes_cut {w : World} {x : Addr} {len cap : Nat} {l : List UInt8} (h : IsBytes w (some x) len cap l) (i j : Nat) (hi : i ≤ j) (hj : j ≤ len) : IsBytes w (some (x.add i)) (j - i) (cap - i) ((l.drop i).take (j - i)) := by
  obtain ⟨a1, a2, a3, a4, a5⟩ := h
  refine ⟨by rw [List.length_take, List.length_drop, a1]; omega, by omega, by omega, fun e => (by cases e), fun y hy k hk => ?_⟩
  cases hy
  rw [Addr.add_add, a5 x rfl (i + k) (by omega)]
  congr 3
  simp [List.getD, hk]
set_option maxHeartbeats 4000000 in
set_option maxRecDepth 100000 in
theorem firstPart_any (x : Addr) (len cap : Nat) (l : List UInt8) (w : World) (hD : IsBytes w (some x) len cap l) (h1 : 1 ≤ len) (h3 : len ≤ 300) :
    Calls Try.prog 28 #[.slice (some x) len cap] w fun e w' => ∃ g c, e = .returned (.slice (some ⟨g, 0, none⟩) (fpL l).length c) ∧ w.heap.size ≤ g ∧ IsBytes w' (some ⟨g, 0, none⟩) (fpL l).length c (fpL l) ∧ Below w.heap.size w w' := by
  have hll : l.length = len := hD.1
  by_cases h7 : len ≤ 7
  · have hcs : (cellsOf [UInt8.ofNat len]).toArray = #[.int .u8 (len : Int)] := by
      unfold cellsOf
      simp only [List.map]
      rw [UInt8.toNat_ofNat_of_lt' (show len < 256 by omega)]
    have hfp : fpL l = [UInt8.ofNat len] ++ l := by
      unfold fpL fpH inF
      rw [hll, if_pos h7, if_pos h7, ← hll, List.take_length]
    have hfl : (fpL l).length = 1 + len := by rw [hfp, List.length_append, hll]; rfl
    rw [hfl, hfp]
    have hm := isBytes_made w [UInt8.ofNat len] (by simp)
    rw [hcs] at hm
    have HB := Hid.mk (awG w (.cells #[.int .u8 (len : Int)] 5))
    have HP := Hid.mk (partOf_some x ⟨w.heap.size, 0, none⟩ len cap 1 1 l [UInt8.ofNat len] _ (isBytes_below hD HB.out) hm (by omega) (by decide))
    have hH := head0_any len w (by omega)
    have h7' : (len : Int) ≤ 7 := by omega
    clear hm hcs hfp hfl hD hll
    go_enter Try.func28, Try.ntmps28
    go_wp2_with fail
    refine hH.mono ?_
    rintro e w1 ⟨rfl, hw1⟩
    rw [hw1]
    clear hw1 hH
    go_wp2_with fail
    refine HP.out.mono ?_
    rintro e w2 ⟨g, c, rfl, hg, hD2, hb2⟩
    have HB2 := Hid.mk (bl2 HB.out hb2)
    have HG := Hid.mk (Nat.le_trans HB.out.size hg)
    have HD2 := Hid.mk hD2
    clear hg hD2 hb2 HP HB
    go_wp2_with fail
    go_ret
    exact ⟨g, c, rfl, HG.out, HD2.out, HB2.out⟩
  · obtain ⟨q, hq⟩ : ∃ q, q = len / 256 := ⟨_, rfl⟩
    have hq1 : q < 16 := by omega
    have hcs : (cellsOf [UInt8.ofNat (16 + q), UInt8.ofNat (len % 256)]).toArray = #[.int .u8 ((16 + q : Nat) : Int), .int .u8 (IntKind.u8.wrap (len : Int))] := by
      unfold cellsOf
      simp only [List.map]
      rw [UInt8.toNat_ofNat_of_lt' (show 16 + q < 256 by omega), UInt8.toNat_ofNat_of_lt' (show len % 256 < 256 by omega), show IntKind.u8.wrap (len : Int) = ((len % 256 : Nat) : Int) from IntKind.wrap_u8 _]
    have hfp : fpL l = [UInt8.ofNat (16 + q), UInt8.ofNat (len % 256)] ++ (l.drop 0).take 6 := by
      unfold fpL fpH inF
      rw [hll, if_neg h7, if_neg h7, hq]
      rfl
    have hfl : (fpL l).length = 2 + 6 := by rw [hfp, List.length_append, List.length_take, List.length_drop, hll]; simp; omega
    rw [hfl, hfp]
    have HM := Hid.mk (fun W => isBytes_made W [UInt8.ofNat (16 + q), UInt8.ofNat (len % 256)] (by simp))
    rw [hcs] at HM
    have HP := Hid.mk (fun W (hb : Below w.heap.size w W) => partOf_some x ⟨W.heap.size, 0, none⟩ 6 cap 2 2 ((l.drop 0).take 6) [UInt8.ofNat (16 + q), UInt8.ofNat (len % 256)] _ (by have := isBytes_below (isBytes_cut hD 0 6 (by omega) (by omega)) (bl2 hb (awG W (.cells #[.int .u8 ((16 + q : Nat) : Int), .int .u8 (IntKind.u8.wrap (len : Int))] 5))); rw [add0P] at this; exact this) (HM.out W) (by omega) (by decide))
    have hs : (len : Int) / 256 = (q : Int) := by omega
    have hs' : (len : Int) / 2 ^ 8 = (q : Int) := by omega
    have HH := Hid.mk (fun W => head1_any q W hq1)
    have h7' : ¬ ((len : Int) ≤ 7) := by omega
    have hcap : len ≤ cap := hD.2.1
    have h6 : (6 : Int) ≤ (cap : Int) := by omega
    have h6' : 6 ≤ cap := by omega
    have hlen3 : (len : Int) ≤ 300 := by omega
    obtain ⟨m, hm⟩ : ∃ m, m = 16 + q := ⟨_, rfl⟩
    have hm2 : (m : Int) ≤ 31 := by omega
    rw [← hm] at HH HP HM ⊢
    have HB0 := Hid.mk (dwG w)
    have hq15 : (q : Int) ≤ 15 := by omega
    clear hq hfp hfl hD hll hcs hm hq1
    go_enter Try.func28, Try.ntmps28
    go_wp2_with fail
    go_region_held3 (fun _ => True) (trivial) (first
      | (go_at_call 43; with_reducible refine (HH.out _).mono ?_; rintro e w3 ⟨rfl, hw3⟩; have HB3 : Hid (Below w.heap.size w w3) := Hid.mk (by rw [hw3]; exact HB0.out); clear hw3)
      | (go_at_call 42; with_reducible refine (HP.out _ HB3.out).mono ?_; rintro e w5 ⟨g, c, rfl, hg, hD2, hb2⟩))
    have HB5 := Hid.mk (bl2 HB3.out (bl2 (awG _ _) hb2))
    have HG := Hid.mk (Nat.le_trans (bl2 HB3.out (awG w3 (.cells #[.int .u8 (m : Int), .int .u8 (IntKind.u8.wrap (len : Int))] 5))).size hg)
    have HD2 := Hid.mk hD2
    clear hg hD2 hb2 HP HB3 HB0 HH HM
    go_wp2_with fail
    go_ret
    exact ⟨g, c, rfl, HG.out, HD2.out, HB5.out⟩
set_option maxHeartbeats 4000000 in
set_option maxRecDepth 100000 in
theorem nextPart_any (x : Addr) (len cap k : Nat) (l : List UInt8) (w : World) (hD : IsBytes w (some x) len cap l) (h1 : k < len) (h3 : len ≤ 300) :
    Calls Try.prog 30 #[.slice (some x) len cap, .int .i64 k] w fun e w' => ∃ g c, e = .returned (.slice (some ⟨g, 0, none⟩) (npL l k).length c) ∧ w.heap.size ≤ g ∧ IsBytes w' (some ⟨g, 0, none⟩) (npL l k).length c (npL l k) ∧ Below w.heap.size w w' := by
  have hll : l.length = len := hD.1
  obtain ⟨q, hq⟩ : ∃ q, q = numN k := ⟨_, rfl⟩
  have hq1 : q < 16 := by rw [hq]; exact numN_lt k
  obtain ⟨en, hen⟩ : ∃ en, en = min (k + 7) len := ⟨_, rfl⟩
  have hcs : (cellsOf [UInt8.ofNat (32 + q)]).toArray = #[.int .u8 ((32 + q : Nat) : Int)] := by
    unfold cellsOf
    simp only [List.map]
    rw [UInt8.toNat_ofNat_of_lt' (show 32 + q < 256 by omega)]
  have htk : (l.drop k).take 7 = (l.drop k).take (en - k) := by
    by_cases hh : k + 7 ≤ len
    · rw [show en - k = 7 by omega]
    · rw [List.take_of_length_le (by rw [List.length_drop]; omega), List.take_of_length_le (by rw [List.length_drop]; omega)]
  have hfp : npL l k = [UInt8.ofNat (32 + q)] ++ (l.drop k).take (en - k) := by
    unfold npL
    rw [← hq, htk]
    rfl
  have hfl : (npL l k).length = 1 + (en - k) := by rw [hfp, List.length_append, List.length_take, List.length_drop, hll]; simp; omega
  rw [hfl, hfp]
  have HM := Hid.mk (fun W => isBytes_made W [UInt8.ofNat (32 + q)] (by simp))
  rw [hcs] at HM
  obtain ⟨sz, hsz⟩ : ∃ sz, sz = en - k := ⟨_, rfl⟩
  have HP := Hid.mk (fun W (hb : Below w.heap.size w W) => partOf_some (x.add k) ⟨W.heap.size, 0, none⟩ (en - k) (cap - k) 1 1 ((l.drop k).take (en - k)) [UInt8.ofNat (32 + q)] _ (isBytes_below (isBytes_cut hD k en (by omega) (by omega)) (bl2 hb (awG W (.cells #[.int .u8 ((32 + q : Nat) : Int)] 5)))) (HM.out W) (by omega) (by decide))
  have HH := Hid.mk (fun W => head2_any q W hq1)
  have HN := Hid.mk (fun W => numberAt_any k W (by omega))
  rw [← hq] at HN
  have hcap : len ≤ cap := hD.2.1
  have hmin : (if (len : Int) < (k : Int) + 7 then (len : Int) else (k : Int) + 7) = (en : Int) := by split <;> omega
  have hmin2 : min ((k : Int) + 7) (len : Int) = (en : Int) := by omega
  have hk1 : (k : Int) ≤ (en : Int) := by omega
  have hk2 : (en : Int) ≤ (cap : Int) := by omega
  have hk3 : k ≤ en := by omega
  have hk4 : en ≤ cap := by omega
  have hk6 : k < cap := by omega
  have hk7 : (k : Int) < (cap : Int) := by omega
  have hk8 : k < en := by omega
  have hk5 : (k : Int) ≤ 300 := by omega
  have hlen3 : (len : Int) ≤ 300 := by omega
  have hen3 : (en : Int) ≤ 300 := by omega
  obtain ⟨m, hm⟩ : ∃ m, m = 32 + q := ⟨_, rfl⟩
  have hm2 : (m : Int) ≤ 47 := by omega
  have hq15 : (q : Int) ≤ 15 := by omega
  rw [← hm] at HH HP HM ⊢
  have HB0 := Hid.mk (dwG w)
  clear hq hfp hfl hD hll hcs hm hq1 hen htk hsz
  go_enter Try.func30, Try.ntmps30
  go_wp2_with fail
  clear hmin hmin2
  go_region_held3 (fun _ => True) (trivial) (first
    | (go_at_call 44; with_reducible refine (HN.out _).mono ?_; rintro e w2 ⟨rfl, hw2⟩; have HB2 : Hid (Below w.heap.size w w2) := Hid.mk (by rw [hw2]; exact HB0.out); clear hw2)
    | (go_at_call 43; with_reducible refine (HH.out _).mono ?_; rintro e w3 ⟨rfl, hw3⟩; have HB3 : Hid (Below w.heap.size w w3) := Hid.mk (by rw [hw3]; exact HB2.out); clear hw3)
    | (go_at_call 42; with_reducible refine (HP.out _ HB3.out).mono ?_; rintro e w5 ⟨g, c, rfl, hg, hD2, hb2⟩))
  have HB5 := Hid.mk (bl2 HB3.out (bl2 (awG _ _) hb2))
  have HG := Hid.mk (Nat.le_trans (bl2 HB3.out (awG w3 (.cells #[.int .u8 (m : Int)] 5))).size hg)
  have HD2 := Hid.mk hD2
  clear hg hD2 hb2 HP HB3 HB0 HH HM
  go_wp2_with fail
  go_ret
  exact ⟨g, c, rfl, HG.out, HD2.out, HB5.out⟩
end Bw
end Go.Proofs.Ytgjnfmbmndnihaa
