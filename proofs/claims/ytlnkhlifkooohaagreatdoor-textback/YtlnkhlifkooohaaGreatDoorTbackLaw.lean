/- TextBack: what is printed of messages is read as they. -/
import Derived.Test.YtlnkhlifkooohaaGreatDoorTxD
namespace Go.Proofs.YtlnkhlifkooohaaGreatDoor
open Go.ChangeShapes Go.WideShapes Go.ChangeAt Go.RowKit
namespace Bw
open Sm
theorem any_m (f : Msg → Bool) : ∀ l : List MsV, (l.any fun a => f a.m) = (msL l).any f
  | [] => rfl
  | v :: l => by show (f v.m || l.any fun a => f a.m) = (f v.m || (msL l).any f); rw [any_m f l]
theorem msL_take (l : List MsV) (i : Nat) : msL (l.take i) = (msL l).take i := by unfold msL; rw [List.map_take]
theorem allE_same {l l' : List MsV} (h : msL l = msL l') : allE l = allE l' := by
  funext i
  unfold allE
  rw [msL_at h i, any_m (fun a => clB a (l'.getD i noM).m), any_m (fun a => clB a (l'.getD i noM).m), msL_take, msL_take, h]
theorem chkA_same {l l' : List MsV} (h : msL l = msL l') : chkA l = chkA l' := by
  have hl : l.length = l'.length := by
    have := congrArg List.length h
    unfold msL at this
    rwa [List.length_map, List.length_map] at this
  unfold chkA
  rw [hl, allE_same h]
theorem printE_zero {l : List MsV} (h : printE l = 0) : chkA l = 0 ∧ (textT (msL l)).length ≤ 4000 := by
  unfold printE at h
  split at h
  · rename_i h1; exact absurd h h1
  · rename_i h1
    split at h
    · omega
    · exact ⟨Decidable.not_not.1 h1, by omega⟩
set_option maxHeartbeats 4000000 in
set_option maxRecDepth 100000 in
theorem tback_bad (a : Option Addr) (n c : Nat) (l : List MsV) (w : World) (hF : IsMsgs w a n c l) (hS : SizesAt w) (hT : TxT w) (hE : printE l ≠ 0) :
    Calls Tryz.prog 6 #[.slice a n c] w fun e w' => e = .returned (.bool true) ∧ Below w.heap.size w w' := by
  have HPR := Hid.mk (print_any a n c l w hF hS hT)
  have HTD := Hid.mk (fun W (h : Below w.heap.size w W) => texted_any W (hS.kept h) (hT.kept h))
  have hne : (printE l != 0) = true := by simpa using hE
  clear hE hF hS hT
  generalize printE l = E at *
  generalize bA (printS l) = X at *
  go_enter Tryz.func6, Tryz.ntmps6
  go_wp2_with fail
  refine HPR.out.mono ?_
  rintro e w1 ⟨rfl, hb1⟩
  have HB1 := Hid.mk hb1
  clear hb1 HPR
  go_wp2_with fail
  refine (HTD.out _ HB1.out).mono ?_
  rintro e w2 ⟨rfl, hb2⟩
  have HB2 := Hid.mk (bl2 HB1.out hb2)
  clear hb2 HB1
  go_wp2_with fail
  refine (HTD.out _ HB2.out).mono ?_
  rintro e w3 ⟨rfl, hb3⟩
  have HB3 := Hid.mk (bl2 HB2.out hb3)
  clear hb3 HB2
  go_wp2_with fail
  go_ret
  exact ⟨rfl, HB3.out⟩
set_option maxHeartbeats 4000000 in
set_option maxRecDepth 100000 in
theorem tback_ok (a : Option Addr) (n c : Nat) (l : List MsV) (w : World) (hF : IsMsgs w a n c l) (hS : SizesAt w) (hT : TxT w) (hE : printE l = 0) :
    Calls Tryz.prog 6 #[.slice a n c] w fun e w' => e = .returned (.bool true) ∧ Below w.heap.size w w' := by
  obtain ⟨hchk, hlen⟩ := printE_zero hE
  obtain ⟨h20, hall⟩ := chkA_ok hchk
  have hn : (msL l).length = n := by unfold msL; rw [List.length_map]; exact hF.row.len
  have hpr := print_any a n c l w hF hS hT
  rw [hE, show printS l = textT (msL l) by unfold printS; rw [if_pos hE]] at hpr
  have HPR := Hid.mk hpr
  have HTD := Hid.mk (fun W (h : Below w.heap.size w W) => texted_any W (hS.kept h) (hT.kept h))
  have HPA := Hid.mk (fun W (h : Below w.heap.size w W) => parse_ok (msL l) n W hn (hT.kept h) (hS.kept h) (by have := hF.row.len; omega) (fun m hm => by
    unfold msL at hm
    rw [List.mem_map] at hm
    obtain ⟨v, hv, rfl⟩ := hm
    exact chkM_ok (hall v hv)) hlen (fun vs h => by rw [chkA_same h]; exact hchk))
  have HF := Hid.mk (fun W (h : Below w.heap.size w W) => hF.kept h)
  clear hE hF hS hT hchk hlen h20 hall hn hpr
  generalize bA (textT (msL l)) = X at *
  go_enter Tryz.func6, Tryz.ntmps6
  go_wp2_with fail
  refine HPR.out.mono ?_
  rintro e w1 ⟨rfl, hb1⟩
  have HB1 := Hid.mk hb1
  clear hb1 HPR
  go_wp2_with fail
  refine (HTD.out _ HB1.out).mono ?_
  rintro e w2 ⟨rfl, hb2⟩
  have HB2 := Hid.mk (bl2 HB1.out hb2)
  clear hb2 HB1
  go_wp2_with fail
  refine (HPA.out _ HB2.out).mono ?_
  rintro e w3 ⟨a3, c3, vs, rfl, HV3, hmv, HB3⟩
  have HB3' := Hid.mk (bl2 HB2.out HB3.out)
  have HEQ := Hid.mk (equalMs_true w3 a a3 n c c3 l vs (HF.out _ HB3'.out) HV3.out hmv.symm)
  clear HB2 HB3 HPA hmv HV3
  go_wp2_with fail
  refine HEQ.out.mono ?_
  rintro e w4 ⟨rfl, hb4⟩
  have HB4 := Hid.mk (bl2 HB3'.out hb4)
  clear hb4
  go_wp2_with fail
  go_ret
  exact ⟨rfl, HB4.out⟩
end Bw
end Go.Proofs.YtlnkhlifkooohaaGreatDoor
