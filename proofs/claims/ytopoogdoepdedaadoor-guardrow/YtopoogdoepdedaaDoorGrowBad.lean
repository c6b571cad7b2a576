/- GuardRow: what is put with one counter after the other is good, seen twice the same, with a bit turned broken. -/
import Derived.Test.YtopoogdoepdedaaDoorGdLed
import Derived.RegionTactic
import Derived.BigRegion
namespace Go.Proofs.YtopoogdoepdedaaDoor
open Go.ChangeShapes Go.WideShapes Go.ChangeAt Go.RowKit Go.Sort
namespace Bw
open Bm Cm
/-- the counter that was seen last, ahead of round k -/
def gLast (k : Nat) : Int := if k = 0 then -1 else (((k - 1) % 15 : Nat) : Int)
def gSt (k : Nat) : Int := if k = 0 then 0 else 1
theorem gLast_b (k : Nat) : -1 ≤ gLast k ∧ gLast k ≤ 14 := by
  unfold gLast
  split <;> omega
theorem gSt_b (k : Nat) : 0 ≤ gSt k ∧ gSt k ≤ 4 := by
  unfold gSt
  split <;> omega
theorem gLast_next (k : Nat) : gLast k = -1 ∨ (((k % 15 : Nat) : Int) - gLast k + 15) % 15 = 1 := by
  unfold gLast
  split
  · exact Or.inl rfl
  · right; omega
theorem gLast_succ (k : Nat) : gLast (k + 1) = ((k % 15 : Nat) : Int) := by unfold gLast; rw [if_neg (by omega)]; rfl
theorem gSt_succ (k : Nat) : gSt (k + 1) = 1 := by unfold gSt; rw [if_neg (by omega)]
theorem xor_ops : ((List.range 256).all fun c => (List.range 8).all fun q => (bits .xor .u8 (c : Int) (2 ^ q % 256) == ((c ^^^ 2 ^ q : Nat) : Int)) && decide (c ^^^ 2 ^ q < 256) && (c ^^^ 2 ^ q != c)) = true := by kernel_rfl
theorem xor_op {c q : Nat} (hc : c < 256) (hq : q < 8) : bits .xor .u8 (c : Int) (2 ^ q % 256) = ((c ^^^ 2 ^ q : Nat) : Int) ∧ c ^^^ 2 ^ q < 256 ∧ c ^^^ 2 ^ q ≠ c := by
  have h := List.all_eq_true.1 (List.all_eq_true.1 xor_ops c (List.mem_range.2 hc)) q (List.mem_range.2 hq)
  simpa [and_assoc] using h
theorem see_broken (key : Nat) (lst b s m : Int) (a : Option Addr) (len cap : Nat) (l : List UInt8) (w : World) (hR : RulesAt w) (hD : IsBytes w a len cap l) (h2 : 2 ≤ len) (h64 : len ≤ 64) (hk : key ≤ 65535) (hl0 : -1 ≤ lst) (hl1 : lst ≤ 14) (hb0 : 0 ≤ b) (hs : 0 ≤ s ∧ s ≤ 4) (hm : 1 ≤ m ∧ m ≤ 14) (hsum : (l.getD 0 0).toNat ≠ gSum key l) (hbb : b ≤ 999999) :
    Calls Tryd.prog 10 #[gdV key lst b s, .slice a len cap, .int .i64 m] w fun e w' => e = .returned (.tuple #[gdV key lst (b + 1) 4, .int .i64 0]) ∧ Below w.heap.size w w' := by
  by_cases h : (l.getD 1 0).toNat % 16 = 15
  · exact see_15 key lst b s m a len cap l w hR hD h2 h64 hk hl0 hl1 hb0 hs hm h hbb
  · exact see_brk key lst b s m _ a len cap l w hR hD h2 h64 hk hl0 hl1 hb0 hs hm hsum rfl (by omega) hbb
/-- one byte of what was put in is another one: the sum is wrong -/
theorem turned_wrong {key : Nat} {L : List UInt8} {j y : Nat} (h0 : (L.getD 0 0).toNat = gSum key L) (hj : j < L.length) (hy : y < 256) (hne : y ≠ (L.getD j 0).toNat) : ((L.set j (UInt8.ofNat y)).getD 0 0).toNat ≠ gSum key (L.set j (UInt8.ofNat y)) := by
  by_cases h : j = 0
  · subst h
    rw [getD_set_self hj, gSum_set0, ofNat_to hy, ← h0]
    exact hne
  · rw [getD_set_ne h, h0]
    refine fun e => gSum_apart key L j (UInt8.ofNat y) (by omega) hj (fun e2 => hne ?_) e.symm
    rw [← e2, ofNat_to hy]
theorem ownsG_keep {w w' : World} {base : Nat} {e : TypeId} {size : Nat} {g n c : Nat} {xs : List Value} (h : w.ownsRow base e size (.slice (some ⟨g, 0, none⟩) n c) n xs) (hk : w'.heap[g]? = w.heap[g]?) : w'.ownsRow base e size (.slice (some ⟨g, 0, none⟩) n c) n xs := by
  obtain ⟨h1, h2⟩ := h
  refine ⟨h1, ?_⟩
  rcases h2 with h2 | ⟨g', cap, cur, hv, hg, hh, r⟩
  · exact .inl h2
  · cases hv
    exact .inr ⟨g, c, cur, rfl, hg, by rw [hk]; exact hh, r⟩
theorem gd_block (w : World) (g q : Nat) (h : q ≠ g) (d0 d1 d2 d3 : Value) : ((((w.setCell ⟨g, 0, none⟩ d0).setCell ⟨g, 1, none⟩ d1).setCell ⟨g, 2, none⟩ d2).setCell ⟨g, 3, none⟩ d3).heap[q]? = w.heap[q]? := by
  rw [Below.heap_setCell _ _ _ _ h, Below.heap_setCell _ _ _ _ h, Below.heap_setCell _ _ _ _ h, Below.heap_setCell _ _ _ _ h]
theorem gd_size (w : World) (g : Nat) (d0 d1 d2 d3 : Value) : ((((w.setCell ⟨g, 0, none⟩ d0).setCell ⟨g, 1, none⟩ d1).setCell ⟨g, 2, none⟩ d2).setCell ⟨g, 3, none⟩ d3).heap.size = w.heap.size := by simp [World.setCell]
theorem gd0 (w : World) (k : Int) : GdAt (w.alloc (gdC k (-1) 0 0)) w.heap.size k (gLast 0) 0 (gSt 0) := heap_alloc_new w _
set_option maxHeartbeats 16000000 in
set_option maxRecDepth 100000 in
theorem grow_bad_in (key : Int) (a : Option Addr) (len cap : Nat) (n bit : Int) (w : World) (hR : RulesAt w) (hl : len ≤ maxLen) (hE : ∀ c : Nat, putE key ((c % 15 : Nat) : Int) len ≠ 0) (hn : 0 ≤ n ∧ n ≤ 40) :
    Calls Tryd.prog 4 #[.int .i64 key, .slice a len cap, .int .i64 n, .int .i64 bit] w fun e w' => e = .returned (.bool true) ∧ Below w.heap.size w w' := by
  have HA := Hid.mk (awG w (gdC key (-1) 0 0))
  have HPUT := Hid.mk (fun c W => put_bad key ((c % 15 : Nat) : Int) a len cap W hl (hE c))
  have HNE := Hid.mk (fun c => show (putE key ((c % 15 : Nat) : Int) len != 0) = true by simpa using hE c)
  have HGD := Hid.mk (fun W (h : Below w.heap.size w W) => guarded_any W (hR.kept h))
  unfold gdC at HA
  clear hE hl hR
  obtain ⟨N, hN⟩ : ∃ N : Nat, n = (N : Int) := ⟨n.toNat, by omega⟩
  subst hN
  have hN0 : ¬ ((N : Int) < 0) := by omega
  have hN1 : ¬ ((40 : Int) < (N : Int)) := by omega
  have hN40 : (N : Int) ≤ 40 := by omega
  clear hn
  go_enter Tryd.func4, Tryd.ntmps4
  go_wp2_with fail
  go_loopw [27] (fun i wr => ∃ k : Nat, k ≤ N ∧ i = .int .i64 k ∧ Hid (Below w.heap.size w wr)) (fun i _ => N - (intOf i).toNat)
  case atStart => exact ⟨0, Nat.zero_le _, rfl, HA⟩
  case round =>
    obtain ⟨k, hk, rfl, HBr⟩ := hrel
    by_cases hlt : k < N
    · have hlt' : (k : Int) < (N : Int) := by omega
      have hk40 : (k : Int) ≤ 40 := by omega
      have hrem : IntKind.i64.wrap ((k : Int).tmod 15) = ((k % 15 : Nat) : Int) := by
        rw [Int.tmod_eq_emod_of_nonneg (by omega), IntKind.wrap_i64]; omega
      have hrem2 : (k : Int) % 15 = ((k % 15 : Nat) : Int) := by omega
      have HPK := Hid.mk (HPUT.out k)
      have hne := HNE.out k
      obtain ⟨r, hr⟩ : ∃ r : Nat, k % 15 = r := ⟨_, rfl⟩
      rw [hr] at HPK hne hrem hrem2
      generalize putE key (r : Int) len = E at *
      clear hr
      go_wp2_with fail
      refine (HPK.out _).mono ?_
      rintro e w1 ⟨rfl, hb1⟩
      have HB1 := Hid.mk (bl2 HBr.out hb1)
      clear hb1
      go_wp2_with fail
      refine (HGD.out _ HB1.out).mono ?_
      rintro e w2 ⟨rfl, hb2⟩
      have HB2 := Hid.mk (bl2 HB1.out hb2)
      clear hb2
      go_wp2_with fail
      go_ret
      exact ⟨rfl, HB2.out⟩
    · have e : k = N := by omega
      subst e
      go_wp2_with fail
      refine (HGD.out _ HBr.out).mono ?_
      rintro e w2 ⟨rfl, hb2⟩
      have HB2 := Hid.mk (bl2 HBr.out hb2)
      clear hb2
      go_wp2_with fail
      go_ret
      exact ⟨rfl, HB2.out⟩
set_option maxHeartbeats 16000000 in
set_option maxRecDepth 100000 in
theorem grow_bad_neg (key : Int) (a : Option Addr) (len cap : Nat) (n bit : Int) (w : World) (hR : RulesAt w) (hl : len ≤ maxLen) (hE : ∀ c : Nat, putE key ((c % 15 : Nat) : Int) len ≠ 0) (hn : n < 0) :
    Calls Tryd.prog 4 #[.int .i64 key, .slice a len cap, .int .i64 n, .int .i64 bit] w fun e w' => e = .returned (.bool true) ∧ Below w.heap.size w w' := by
  have HA := Hid.mk (awG w (gdC key (-1) 0 0))
  have HPUT := Hid.mk (fun c W => put_bad key ((c % 15 : Nat) : Int) a len cap W hl (hE c))
  have HNE := Hid.mk (fun c => show (putE key ((c % 15 : Nat) : Int) len != 0) = true by simpa using hE c)
  have HGD := Hid.mk (fun W (h : Below w.heap.size w W) => guarded_any W (hR.kept h))
  unfold gdC at HA
  clear hE hl hR
  obtain ⟨N, hN⟩ : ∃ N : Nat, N = 20 := ⟨20, rfl⟩
  have HNN : Hid ((20 : Int) = (N : Int)) := Hid.mk (by omega)
  have hN40 : (N : Int) ≤ 40 := by omega
  clear hN
  go_enter Tryd.func4, Tryd.ntmps4
  go_wp2_with fail
  rw [HNN.out]
  go_loopw [27] (fun i wr => ∃ k : Nat, k ≤ N ∧ i = .int .i64 k ∧ Hid (Below w.heap.size w wr)) (fun i _ => N - (intOf i).toNat)
  case atStart => exact ⟨0, Nat.zero_le _, rfl, HA⟩
  case round =>
    obtain ⟨k, hk, rfl, HBr⟩ := hrel
    by_cases hlt : k < N
    · have hlt' : (k : Int) < (N : Int) := by omega
      have hk40 : (k : Int) ≤ 40 := by omega
      have hrem : IntKind.i64.wrap ((k : Int).tmod 15) = ((k % 15 : Nat) : Int) := by
        rw [Int.tmod_eq_emod_of_nonneg (by omega), IntKind.wrap_i64]; omega
      have hrem2 : (k : Int) % 15 = ((k % 15 : Nat) : Int) := by omega
      have HPK := Hid.mk (HPUT.out k)
      have hne := HNE.out k
      obtain ⟨r, hr⟩ : ∃ r : Nat, k % 15 = r := ⟨_, rfl⟩
      rw [hr] at HPK hne hrem hrem2
      generalize putE key (r : Int) len = E at *
      clear hr
      go_wp2_with fail
      refine (HPK.out _).mono ?_
      rintro e w1 ⟨rfl, hb1⟩
      have HB1 := Hid.mk (bl2 HBr.out hb1)
      clear hb1
      go_wp2_with fail
      refine (HGD.out _ HB1.out).mono ?_
      rintro e w2 ⟨rfl, hb2⟩
      have HB2 := Hid.mk (bl2 HB1.out hb2)
      clear hb2
      go_wp2_with fail
      go_ret
      exact ⟨rfl, HB2.out⟩
    · have e : k = N := by omega
      subst e
      go_wp2_with fail
      refine (HGD.out _ HBr.out).mono ?_
      rintro e w2 ⟨rfl, hb2⟩
      have HB2 := Hid.mk (bl2 HBr.out hb2)
      clear hb2
      go_wp2_with fail
      go_ret
      exact ⟨rfl, HB2.out⟩
set_option maxHeartbeats 16000000 in
set_option maxRecDepth 100000 in
theorem grow_bad_big (key : Int) (a : Option Addr) (len cap : Nat) (n bit : Int) (w : World) (hR : RulesAt w) (hl : len ≤ maxLen) (hE : ∀ c : Nat, putE key ((c % 15 : Nat) : Int) len ≠ 0) (hn : 40 < n) :
    Calls Tryd.prog 4 #[.int .i64 key, .slice a len cap, .int .i64 n, .int .i64 bit] w fun e w' => e = .returned (.bool true) ∧ Below w.heap.size w w' := by
  have HA := Hid.mk (awG w (gdC key (-1) 0 0))
  have HPUT := Hid.mk (fun c W => put_bad key ((c % 15 : Nat) : Int) a len cap W hl (hE c))
  have HNE := Hid.mk (fun c => show (putE key ((c % 15 : Nat) : Int) len != 0) = true by simpa using hE c)
  have HGD := Hid.mk (fun W (h : Below w.heap.size w W) => guarded_any W (hR.kept h))
  unfold gdC at HA
  clear hE hl hR
  obtain ⟨N, hN⟩ : ∃ N : Nat, N = 20 := ⟨20, rfl⟩
  have HNN : Hid ((20 : Int) = (N : Int)) := Hid.mk (by omega)
  have hN40 : (N : Int) ≤ 40 := by omega
  have hN2 : ¬ (n < 0) := by omega
  clear hN
  go_enter Tryd.func4, Tryd.ntmps4
  go_wp2_with fail
  rw [HNN.out]
  go_loopw [27] (fun i wr => ∃ k : Nat, k ≤ N ∧ i = .int .i64 k ∧ Hid (Below w.heap.size w wr)) (fun i _ => N - (intOf i).toNat)
  case atStart => exact ⟨0, Nat.zero_le _, rfl, HA⟩
  case round =>
    obtain ⟨k, hk, rfl, HBr⟩ := hrel
    by_cases hlt : k < N
    · have hlt' : (k : Int) < (N : Int) := by omega
      have hk40 : (k : Int) ≤ 40 := by omega
      have hrem : IntKind.i64.wrap ((k : Int).tmod 15) = ((k % 15 : Nat) : Int) := by
        rw [Int.tmod_eq_emod_of_nonneg (by omega), IntKind.wrap_i64]; omega
      have hrem2 : (k : Int) % 15 = ((k % 15 : Nat) : Int) := by omega
      have HPK := Hid.mk (HPUT.out k)
      have hne := HNE.out k
      obtain ⟨r, hr⟩ : ∃ r : Nat, k % 15 = r := ⟨_, rfl⟩
      rw [hr] at HPK hne hrem hrem2
      generalize putE key (r : Int) len = E at *
      clear hr
      go_wp2_with fail
      refine (HPK.out _).mono ?_
      rintro e w1 ⟨rfl, hb1⟩
      have HB1 := Hid.mk (bl2 HBr.out hb1)
      clear hb1
      go_wp2_with fail
      refine (HGD.out _ HB1.out).mono ?_
      rintro e w2 ⟨rfl, hb2⟩
      have HB2 := Hid.mk (bl2 HB1.out hb2)
      clear hb2
      go_wp2_with fail
      go_ret
      exact ⟨rfl, HB2.out⟩
    · have e : k = N := by omega
      subst e
      go_wp2_with fail
      refine (HGD.out _ HBr.out).mono ?_
      rintro e w2 ⟨rfl, hb2⟩
      have HB2 := Hid.mk (bl2 HBr.out hb2)
      clear hb2
      go_wp2_with fail
      go_ret
      exact ⟨rfl, HB2.out⟩
end Bw
end Go.Proofs.YtopoogdoepdedaaDoor
