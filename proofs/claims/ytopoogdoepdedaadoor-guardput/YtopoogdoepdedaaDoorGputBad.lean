/- GuardPut: a counter and a sum are put into any data as the document says, errors too. -/
import Derived.Test.YtopoogdoepdedaaDoorGdSumRef
namespace Go.Proofs.YtopoogdoepdedaaDoor
open Go.ChangeShapes Go.WideShapes Go.ChangeAt Go.RowKit Go.Sort
namespace Bw
open Bm Cm
theorem putE_out {key ctr : Int} {len : Nat} (h : ¬ ((0 ≤ key ∧ key ≤ 65535) ∧ (0 ≤ ctr ∧ ctr ≤ 14))) : putE key ctr len = 3 := by
  unfold putE
  rw [if_neg (fun e => h ⟨inG_iff.1 e.1, inG_iff.1 e.2⟩)]
theorem putE_in {key ctr : Int} {len : Nat} (h : (0 ≤ key ∧ key ≤ 65535) ∧ (0 ≤ ctr ∧ ctr ≤ 14)) : putE key ctr len = szE len := by
  unfold putE
  rw [if_pos ⟨inG_iff.2 h.1, inG_iff.2 h.2⟩]
set_option maxHeartbeats 8000000 in
set_option maxRecDepth 100000 in
theorem gput_kneg (key ctr : Int) (a : Option Addr) (len cap : Nat) (l : List UInt8) (w : World) (hR : RulesAt w) (hD : IsBytes w a len cap l) (hlen : len ≤ 140737488351232) (h1 : key < 0) :
    Calls Tryd.prog 3 #[.int .i64 key, .int .i64 ctr, .slice a len cap] w fun e w' => e = .returned (.bool true) ∧ Below w.heap.size w w' := by
  have hmx : len ≤ maxLen := Nat.le_trans hD.2.1 hD.2.2.1
  have hl' : (len : Int) ≤ 9223372036854775807 := by omega
  have hE : putE key ctr len = 3 := putE_out (by omega)
  have HCL := Hid.mk (cloneSl_any a len cap l w hD hlen)
  have hPU := fun a' c' W => put_bad key ctr a' len c' W hmx (by rw [hE]; decide)
  simp only [hE] at hPU
  have HPU := Hid.mk hPU
  have HGD := Hid.mk (fun W (h : Below w.heap.size w W) => guarded_any W (hR.kept h))
  have HD := Hid.mk (fun W (h : Below w.heap.size w W) => isBytes_below hD h)
  have HEQ := Hid.mk (fun b c' W (h : Below w.heap.size w W) (hY : IsBytes W b len c' l) => equalB_true W b a len c' cap l hmx (hasG hY) (hasG (HD.out W h)))
  clear hPU hR hD hmx hlen
  clear hE
  go_enter Tryd.func3, Tryd.ntmps3
  go_wp2_with fail
  refine HCL.out.mono ?_
  rintro e w1 ⟨b, c, rfl, hY1, hb1⟩
  have HY1 := Hid.mk hY1
  have HB1 := Hid.mk hb1
  clear hY1 hb1 HCL
  go_wp2_with fail
  refine (HPU.out _ _ _).mono ?_
  rintro e w2 ⟨rfl, hb2⟩
  have HY2 := Hid.mk (isBytes_below HY1.out hb2)
  have HB2 := Hid.mk (bl2 HB1.out hb2)
  clear hb2 HY1 HB1 HPU
  go_wp2_with fail
  refine (HGD.out _ HB2.out).mono ?_
  rintro e w3 ⟨rfl, hb3⟩
  have HY3 := Hid.mk (isBytes_below HY2.out hb3)
  have HB3 := Hid.mk (bl2 HB2.out hb3)
  clear hb3 HY2 HB2
  go_wp2_with fail
  refine (HEQ.out _ _ _ HB3.out HY3.out).mono ?_
  rintro e w4 ⟨rfl, hb4⟩
  have HY4 := Hid.mk (isBytes_below HY3.out hb4)
  have HB4 := Hid.mk (bl2 HB3.out hb4)
  clear hb4 HY3 HB3
  go_wp2_with fail
  refine (HGD.out _ HB4.out).mono ?_
  rintro e w5 ⟨rfl, hb5⟩
  have HY5 := Hid.mk (isBytes_below HY4.out hb5)
  have HB5 := Hid.mk (bl2 HB4.out hb5)
  clear hb5 HY4 HB4
  go_wp2_with fail
  refine (HEQ.out _ _ _ HB5.out HY5.out).mono ?_
  rintro e w6 ⟨rfl, hb6⟩
  have HB6 := Hid.mk (bl2 HB5.out hb6)
  clear hb6
  go_wp2_with fail
  go_ret
  exact ⟨rfl, HB6.out⟩
set_option maxHeartbeats 8000000 in
set_option maxRecDepth 100000 in
theorem gput_kbig (key ctr : Int) (a : Option Addr) (len cap : Nat) (l : List UInt8) (w : World) (hR : RulesAt w) (hD : IsBytes w a len cap l) (hlen : len ≤ 140737488351232) (h1 : 65535 < key) :
    Calls Tryd.prog 3 #[.int .i64 key, .int .i64 ctr, .slice a len cap] w fun e w' => e = .returned (.bool true) ∧ Below w.heap.size w w' := by
  have hmx : len ≤ maxLen := Nat.le_trans hD.2.1 hD.2.2.1
  have hl' : (len : Int) ≤ 9223372036854775807 := by omega
  have hE : putE key ctr len = 3 := putE_out (by omega)
  have HCL := Hid.mk (cloneSl_any a len cap l w hD hlen)
  have hPU := fun a' c' W => put_bad key ctr a' len c' W hmx (by rw [hE]; decide)
  simp only [hE] at hPU
  have HPU := Hid.mk hPU
  have HGD := Hid.mk (fun W (h : Below w.heap.size w W) => guarded_any W (hR.kept h))
  have HD := Hid.mk (fun W (h : Below w.heap.size w W) => isBytes_below hD h)
  have HEQ := Hid.mk (fun b c' W (h : Below w.heap.size w W) (hY : IsBytes W b len c' l) => equalB_true W b a len c' cap l hmx (hasG hY) (hasG (HD.out W h)))
  clear hPU hR hD hmx hlen
  have h2 : ¬ (key < 0) := by omega
  clear hE
  go_enter Tryd.func3, Tryd.ntmps3
  go_wp2_with fail
  refine HCL.out.mono ?_
  rintro e w1 ⟨b, c, rfl, hY1, hb1⟩
  have HY1 := Hid.mk hY1
  have HB1 := Hid.mk hb1
  clear hY1 hb1 HCL
  go_wp2_with fail
  refine (HPU.out _ _ _).mono ?_
  rintro e w2 ⟨rfl, hb2⟩
  have HY2 := Hid.mk (isBytes_below HY1.out hb2)
  have HB2 := Hid.mk (bl2 HB1.out hb2)
  clear hb2 HY1 HB1 HPU
  go_wp2_with fail
  refine (HGD.out _ HB2.out).mono ?_
  rintro e w3 ⟨rfl, hb3⟩
  have HY3 := Hid.mk (isBytes_below HY2.out hb3)
  have HB3 := Hid.mk (bl2 HB2.out hb3)
  clear hb3 HY2 HB2
  go_wp2_with fail
  refine (HEQ.out _ _ _ HB3.out HY3.out).mono ?_
  rintro e w4 ⟨rfl, hb4⟩
  have HY4 := Hid.mk (isBytes_below HY3.out hb4)
  have HB4 := Hid.mk (bl2 HB3.out hb4)
  clear hb4 HY3 HB3
  go_wp2_with fail
  refine (HGD.out _ HB4.out).mono ?_
  rintro e w5 ⟨rfl, hb5⟩
  have HY5 := Hid.mk (isBytes_below HY4.out hb5)
  have HB5 := Hid.mk (bl2 HB4.out hb5)
  clear hb5 HY4 HB4
  go_wp2_with fail
  refine (HEQ.out _ _ _ HB5.out HY5.out).mono ?_
  rintro e w6 ⟨rfl, hb6⟩
  have HB6 := Hid.mk (bl2 HB5.out hb6)
  clear hb6
  go_wp2_with fail
  go_ret
  exact ⟨rfl, HB6.out⟩
set_option maxHeartbeats 8000000 in
set_option maxRecDepth 100000 in
theorem gput_cneg (key ctr : Int) (a : Option Addr) (len cap : Nat) (l : List UInt8) (w : World) (hR : RulesAt w) (hD : IsBytes w a len cap l) (hlen : len ≤ 140737488351232) (h1 : 0 ≤ key ∧ key ≤ 65535) (h2 : ctr < 0) :
    Calls Tryd.prog 3 #[.int .i64 key, .int .i64 ctr, .slice a len cap] w fun e w' => e = .returned (.bool true) ∧ Below w.heap.size w w' := by
  have hmx : len ≤ maxLen := Nat.le_trans hD.2.1 hD.2.2.1
  have hl' : (len : Int) ≤ 9223372036854775807 := by omega
  have hE : putE key ctr len = 3 := putE_out (by omega)
  have HCL := Hid.mk (cloneSl_any a len cap l w hD hlen)
  have hPU := fun a' c' W => put_bad key ctr a' len c' W hmx (by rw [hE]; decide)
  simp only [hE] at hPU
  have HPU := Hid.mk hPU
  have HGD := Hid.mk (fun W (h : Below w.heap.size w W) => guarded_any W (hR.kept h))
  have HD := Hid.mk (fun W (h : Below w.heap.size w W) => isBytes_below hD h)
  have HEQ := Hid.mk (fun b c' W (h : Below w.heap.size w W) (hY : IsBytes W b len c' l) => equalB_true W b a len c' cap l hmx (hasG hY) (hasG (HD.out W h)))
  clear hPU hR hD hmx hlen
  have h3 : ¬ (key < 0) := by omega
  have h4 : ¬ (65535 < key) := by omega
  clear hE h1
  go_enter Tryd.func3, Tryd.ntmps3
  go_wp2_with fail
  refine HCL.out.mono ?_
  rintro e w1 ⟨b, c, rfl, hY1, hb1⟩
  have HY1 := Hid.mk hY1
  have HB1 := Hid.mk hb1
  clear hY1 hb1 HCL
  go_wp2_with fail
  refine (HPU.out _ _ _).mono ?_
  rintro e w2 ⟨rfl, hb2⟩
  have HY2 := Hid.mk (isBytes_below HY1.out hb2)
  have HB2 := Hid.mk (bl2 HB1.out hb2)
  clear hb2 HY1 HB1 HPU
  go_wp2_with fail
  refine (HGD.out _ HB2.out).mono ?_
  rintro e w3 ⟨rfl, hb3⟩
  have HY3 := Hid.mk (isBytes_below HY2.out hb3)
  have HB3 := Hid.mk (bl2 HB2.out hb3)
  clear hb3 HY2 HB2
  go_wp2_with fail
  refine (HEQ.out _ _ _ HB3.out HY3.out).mono ?_
  rintro e w4 ⟨rfl, hb4⟩
  have HY4 := Hid.mk (isBytes_below HY3.out hb4)
  have HB4 := Hid.mk (bl2 HB3.out hb4)
  clear hb4 HY3 HB3
  go_wp2_with fail
  refine (HGD.out _ HB4.out).mono ?_
  rintro e w5 ⟨rfl, hb5⟩
  have HY5 := Hid.mk (isBytes_below HY4.out hb5)
  have HB5 := Hid.mk (bl2 HB4.out hb5)
  clear hb5 HY4 HB4
  go_wp2_with fail
  refine (HEQ.out _ _ _ HB5.out HY5.out).mono ?_
  rintro e w6 ⟨rfl, hb6⟩
  have HB6 := Hid.mk (bl2 HB5.out hb6)
  clear hb6
  go_wp2_with fail
  go_ret
  exact ⟨rfl, HB6.out⟩
set_option maxHeartbeats 8000000 in
set_option maxRecDepth 100000 in
theorem gput_cbig (key ctr : Int) (a : Option Addr) (len cap : Nat) (l : List UInt8) (w : World) (hR : RulesAt w) (hD : IsBytes w a len cap l) (hlen : len ≤ 140737488351232) (h1 : 0 ≤ key ∧ key ≤ 65535) (h2 : 14 < ctr) :
    Calls Tryd.prog 3 #[.int .i64 key, .int .i64 ctr, .slice a len cap] w fun e w' => e = .returned (.bool true) ∧ Below w.heap.size w w' := by
  have hmx : len ≤ maxLen := Nat.le_trans hD.2.1 hD.2.2.1
  have hl' : (len : Int) ≤ 9223372036854775807 := by omega
  have hE : putE key ctr len = 3 := putE_out (by omega)
  have HCL := Hid.mk (cloneSl_any a len cap l w hD hlen)
  have hPU := fun a' c' W => put_bad key ctr a' len c' W hmx (by rw [hE]; decide)
  simp only [hE] at hPU
  have HPU := Hid.mk hPU
  have HGD := Hid.mk (fun W (h : Below w.heap.size w W) => guarded_any W (hR.kept h))
  have HD := Hid.mk (fun W (h : Below w.heap.size w W) => isBytes_below hD h)
  have HEQ := Hid.mk (fun b c' W (h : Below w.heap.size w W) (hY : IsBytes W b len c' l) => equalB_true W b a len c' cap l hmx (hasG hY) (hasG (HD.out W h)))
  clear hPU hR hD hmx hlen
  have h3 : ¬ (key < 0) := by omega
  have h4 : ¬ (65535 < key) := by omega
  have h5 : ¬ (ctr < 0) := by omega
  clear hE h1
  go_enter Tryd.func3, Tryd.ntmps3
  go_wp2_with fail
  refine HCL.out.mono ?_
  rintro e w1 ⟨b, c, rfl, hY1, hb1⟩
  have HY1 := Hid.mk hY1
  have HB1 := Hid.mk hb1
  clear hY1 hb1 HCL
  go_wp2_with fail
  refine (HPU.out _ _ _).mono ?_
  rintro e w2 ⟨rfl, hb2⟩
  have HY2 := Hid.mk (isBytes_below HY1.out hb2)
  have HB2 := Hid.mk (bl2 HB1.out hb2)
  clear hb2 HY1 HB1 HPU
  go_wp2_with fail
  refine (HGD.out _ HB2.out).mono ?_
  rintro e w3 ⟨rfl, hb3⟩
  have HY3 := Hid.mk (isBytes_below HY2.out hb3)
  have HB3 := Hid.mk (bl2 HB2.out hb3)
  clear hb3 HY2 HB2
  go_wp2_with fail
  refine (HEQ.out _ _ _ HB3.out HY3.out).mono ?_
  rintro e w4 ⟨rfl, hb4⟩
  have HY4 := Hid.mk (isBytes_below HY3.out hb4)
  have HB4 := Hid.mk (bl2 HB3.out hb4)
  clear hb4 HY3 HB3
  go_wp2_with fail
  refine (HGD.out _ HB4.out).mono ?_
  rintro e w5 ⟨rfl, hb5⟩
  have HY5 := Hid.mk (isBytes_below HY4.out hb5)
  have HB5 := Hid.mk (bl2 HB4.out hb5)
  clear hb5 HY4 HB4
  go_wp2_with fail
  refine (HEQ.out _ _ _ HB5.out HY5.out).mono ?_
  rintro e w6 ⟨rfl, hb6⟩
  have HB6 := Hid.mk (bl2 HB5.out hb6)
  clear hb6
  go_wp2_with fail
  go_ret
  exact ⟨rfl, HB6.out⟩
set_option maxHeartbeats 8000000 in
set_option maxRecDepth 100000 in
theorem gput_short (key ctr : Int) (a : Option Addr) (len cap : Nat) (l : List UInt8) (w : World) (hR : RulesAt w) (hD : IsBytes w a len cap l) (hlen : len ≤ 140737488351232) (h1 : 0 ≤ key ∧ key ≤ 65535) (h2 : 0 ≤ ctr ∧ ctr ≤ 14) (h6 : len < 2) :
    Calls Tryd.prog 3 #[.int .i64 key, .int .i64 ctr, .slice a len cap] w fun e w' => e = .returned (.bool true) ∧ Below w.heap.size w w' := by
  have hmx : len ≤ maxLen := Nat.le_trans hD.2.1 hD.2.2.1
  have hl' : (len : Int) ≤ 9223372036854775807 := by omega
  have hE : putE key ctr len = 7 := by rw [putE_in ⟨h1, h2⟩]; unfold szE; rw [if_pos h6]
  have HCL := Hid.mk (cloneSl_any a len cap l w hD hlen)
  have hPU := fun a' c' W => put_bad key ctr a' len c' W hmx (by rw [hE]; decide)
  simp only [hE] at hPU
  have HPU := Hid.mk hPU
  have HGD := Hid.mk (fun W (h : Below w.heap.size w W) => guarded_any W (hR.kept h))
  have HD := Hid.mk (fun W (h : Below w.heap.size w W) => isBytes_below hD h)
  have HEQ := Hid.mk (fun b c' W (h : Below w.heap.size w W) (hY : IsBytes W b len c' l) => equalB_true W b a len c' cap l hmx (hasG hY) (hasG (HD.out W h)))
  clear hPU hR hD hmx hlen
  have h3 : ¬ (key < 0) := by omega
  have h4 : ¬ (65535 < key) := by omega
  have h5 : ¬ (ctr < 0) := by omega
  have h7 : ¬ (14 < ctr) := by omega
  have h8 : (len : Int) < 2 := by omega
  clear hE h1 h2
  go_enter Tryd.func3, Tryd.ntmps3
  go_wp2_with fail
  refine HCL.out.mono ?_
  rintro e w1 ⟨b, c, rfl, hY1, hb1⟩
  have HY1 := Hid.mk hY1
  have HB1 := Hid.mk hb1
  clear hY1 hb1 HCL
  go_wp2_with fail
  refine (HPU.out _ _ _).mono ?_
  rintro e w2 ⟨rfl, hb2⟩
  have HY2 := Hid.mk (isBytes_below HY1.out hb2)
  have HB2 := Hid.mk (bl2 HB1.out hb2)
  clear hb2 HY1 HB1 HPU
  go_wp2_with fail
  refine (HGD.out _ HB2.out).mono ?_
  rintro e w3 ⟨rfl, hb3⟩
  have HY3 := Hid.mk (isBytes_below HY2.out hb3)
  have HB3 := Hid.mk (bl2 HB2.out hb3)
  clear hb3 HY2 HB2
  go_wp2_with fail
  refine (HEQ.out _ _ _ HB3.out HY3.out).mono ?_
  rintro e w4 ⟨rfl, hb4⟩
  have HY4 := Hid.mk (isBytes_below HY3.out hb4)
  have HB4 := Hid.mk (bl2 HB3.out hb4)
  clear hb4 HY3 HB3
  go_wp2_with fail
  refine (HGD.out _ HB4.out).mono ?_
  rintro e w5 ⟨rfl, hb5⟩
  have HY5 := Hid.mk (isBytes_below HY4.out hb5)
  have HB5 := Hid.mk (bl2 HB4.out hb5)
  clear hb5 HY4 HB4
  go_wp2_with fail
  refine (HEQ.out _ _ _ HB5.out HY5.out).mono ?_
  rintro e w6 ⟨rfl, hb6⟩
  have HB6 := Hid.mk (bl2 HB5.out hb6)
  clear hb6
  go_wp2_with fail
  go_ret
  exact ⟨rfl, HB6.out⟩
set_option maxHeartbeats 8000000 in
set_option maxRecDepth 100000 in
theorem gput_long (key ctr : Int) (a : Option Addr) (len cap : Nat) (l : List UInt8) (w : World) (hR : RulesAt w) (hD : IsBytes w a len cap l) (hlen : len ≤ 140737488351232) (h1 : 0 ≤ key ∧ key ≤ 65535) (h2 : 0 ≤ ctr ∧ ctr ≤ 14) (h6 : 64 < len) :
    Calls Tryd.prog 3 #[.int .i64 key, .int .i64 ctr, .slice a len cap] w fun e w' => e = .returned (.bool true) ∧ Below w.heap.size w w' := by
  have hmx : len ≤ maxLen := Nat.le_trans hD.2.1 hD.2.2.1
  have hl' : (len : Int) ≤ 9223372036854775807 := by omega
  have hE : putE key ctr len = 2 := by rw [putE_in ⟨h1, h2⟩]; unfold szE; rw [if_neg (by omega), if_pos h6]
  have HCL := Hid.mk (cloneSl_any a len cap l w hD hlen)
  have hPU := fun a' c' W => put_bad key ctr a' len c' W hmx (by rw [hE]; decide)
  simp only [hE] at hPU
  have HPU := Hid.mk hPU
  have HGD := Hid.mk (fun W (h : Below w.heap.size w W) => guarded_any W (hR.kept h))
  have HD := Hid.mk (fun W (h : Below w.heap.size w W) => isBytes_below hD h)
  have HEQ := Hid.mk (fun b c' W (h : Below w.heap.size w W) (hY : IsBytes W b len c' l) => equalB_true W b a len c' cap l hmx (hasG hY) (hasG (HD.out W h)))
  clear hPU hR hD hmx hlen
  have h3 : ¬ (key < 0) := by omega
  have h4 : ¬ (65535 < key) := by omega
  have h5 : ¬ (ctr < 0) := by omega
  have h7 : ¬ (14 < ctr) := by omega
  have h8 : ¬ ((len : Int) < 2) := by omega
  have h9 : (64 : Int) < (len : Int) := by omega
  clear hE h1 h2
  go_enter Tryd.func3, Tryd.ntmps3
  go_wp2_with fail
  refine HCL.out.mono ?_
  rintro e w1 ⟨b, c, rfl, hY1, hb1⟩
  have HY1 := Hid.mk hY1
  have HB1 := Hid.mk hb1
  clear hY1 hb1 HCL
  go_wp2_with fail
  refine (HPU.out _ _ _).mono ?_
  rintro e w2 ⟨rfl, hb2⟩
  have HY2 := Hid.mk (isBytes_below HY1.out hb2)
  have HB2 := Hid.mk (bl2 HB1.out hb2)
  clear hb2 HY1 HB1 HPU
  go_wp2_with fail
  refine (HGD.out _ HB2.out).mono ?_
  rintro e w3 ⟨rfl, hb3⟩
  have HY3 := Hid.mk (isBytes_below HY2.out hb3)
  have HB3 := Hid.mk (bl2 HB2.out hb3)
  clear hb3 HY2 HB2
  go_wp2_with fail
  refine (HEQ.out _ _ _ HB3.out HY3.out).mono ?_
  rintro e w4 ⟨rfl, hb4⟩
  have HY4 := Hid.mk (isBytes_below HY3.out hb4)
  have HB4 := Hid.mk (bl2 HB3.out hb4)
  clear hb4 HY3 HB3
  go_wp2_with fail
  refine (HGD.out _ HB4.out).mono ?_
  rintro e w5 ⟨rfl, hb5⟩
  have HY5 := Hid.mk (isBytes_below HY4.out hb5)
  have HB5 := Hid.mk (bl2 HB4.out hb5)
  clear hb5 HY4 HB4
  go_wp2_with fail
  refine (HEQ.out _ _ _ HB5.out HY5.out).mono ?_
  rintro e w6 ⟨rfl, hb6⟩
  have HB6 := Hid.mk (bl2 HB5.out hb6)
  clear hb6
  go_wp2_with fail
  go_ret
  exact ⟨rfl, HB6.out⟩
end Bw
end Go.Proofs.YtopoogdoepdedaaDoor
