/- texted: the closed fact that the laws on texts ask first. -/
import Derived.Test.YtlnkhlifkooohaaGreatDoorTxC1
import Derived.Test.YtlnkhlifkooohaaGreatDoorMgF
namespace Go.Proofs.YtlnkhlifkooohaaGreatDoor
open Go.ChangeShapes Go.WideShapes Go.ChangeAt Go.RowKit
namespace Bw
open Sm
set_option maxHeartbeats 4000000 in
set_option maxRecDepth 100000 in
theorem equalSg_true (w : World) (a b : Option Addr) (n c d : Nat) (l : List Sig) (ha : IsSigs w a n c l) (hb : IsSigs w b n d l) :
    Calls Tryz.prog 71 #[.slice a n c, .slice b n d] w fun e w' => e = .returned (.bool true) ∧ Below w.heap.size w w' := by
  have hn63 : n ≤ 9223372036854775807 := by have h1 := ha.le; have h2 := ha.max; unfold maxLen at h2; omega
  have HA := Hid.mk ha
  have HB := Hid.mk hb
  clear ha hb
  go_enter Tryz.func71, Tryz.ntmps71
  go_wp2
  go_loopw [13] (fun i w' => ∃ k : Nat, k ≤ n ∧ i = .int .i64 k ∧ ∃ m, w' = w.drewN m) (fun i _ => n - (intOf i).toNat)
  case atStart => exact ⟨0, Nat.zero_le _, rfl, 0, rfl⟩
  case round =>
    obtain ⟨k, hk, rfl, m, rfl⟩ := hrel
    by_cases hlt : k < n
    · obtain ⟨x, hx⟩ := HA.out.some hlt
      obtain ⟨y, hy⟩ := HB.out.some hlt
      cases hx
      cases hy
      obtain ⟨g0, g1, g2, g3, g4, g5, g6, g7, g8⟩ := HA.out.at hlt
      obtain ⟨h0, h1, h2, h3, h4, h5, h6, h7, h8⟩ := HB.out.at hlt
      generalize l.getD k noS = z at *
      obtain ⟨nm, st, sz, bk, sg, mu, di, ad, ky⟩ := z
      simp only at g0 g1 g2 g3 g4 g5 g6 g7 g8 h0 h1 h2 h3 h4 h5 h6 h7 h8
      have hlt' : (k : Int) < (n : Int) := by omega
      go_wp2
      go_quiet (fail)
      go_wp2
      go_roundw
      case rel => exact ⟨k + 1, by omega, by go_num, _, rfl⟩
      case measure => simp [intOf]; omega
    · go_wp2
      go_ret
      exact ⟨rfl, ⟨rfl, rfl, rfl, Nat.le_refl _, fun _ _ => rfl⟩⟩
set_option maxHeartbeats 4000000 in
set_option maxRecDepth 100000 in
theorem sameM_true (u v : MsV) (w : World) (hm : u.m = v.m) (hu : MsIn w u) (hv : MsIn w v) :
    Calls Tryz.prog 26 #[msV u, msV v] w fun e w' => e = .returned (.bool true) ∧ Below w.heap.size w w' := by
  have HB1 := Hid.mk (ms_box w u)
  have HB2 := Hid.mk (ms_box (w.alloc (msC u)) v)
  have HBB := Hid.mk (bl2 HB1.out HB2.out)
  obtain ⟨m, a, n, c⟩ := u
  obtain ⟨m', b, n', d⟩ := v
  simp only at hm
  subst hm
  have hn : n' = n := by have h1 := hu.row.len; have h2 := hv.row.len; simp only at h1 h2; omega
  subst hn
  have HEQ := Hid.mk (fun W (h : Below w.heap.size w W) => equalSg_true W a b n' c d m.sigs (hu.row.kept h) (hv.row.kept h))
  clear hu hv
  obtain ⟨id, lo, nm, size, ch, sigs⟩ := m
  unfold msC at HBB HB1 HB2
  unfold msV
  simp only at HBB HB1 HB2 HEQ ⊢
  go_enter Tryz.func26, Tryz.ntmps26
  go_wp2_with fail
  refine (HEQ.out _ HBB.out).mono ?_
  rintro e w1 ⟨rfl, hb1⟩
  have HB3 := Hid.mk (bl2 HBB.out hb1)
  clear hb1
  go_wp2_with fail
  go_ret
  exact ⟨rfl, HB3.out⟩
theorem enter_same : ∀ args w, (callFunc 26 args).run Tryz.prog w = .ok (.enter 26 args) w := enters_of Tryz.func26 (by kernel_rfl) rfl
theorem msL_at {l l' : List MsV} (h : msL l = msL l') (k : Nat) : (l.getD k noM).m = (l'.getD k noM).m := by
  have h1 : (msL l)[k]? = (msL l')[k]? := by rw [h]
  unfold msL at h1
  rw [List.getElem?_map, List.getElem?_map] at h1
  simp only [List.getD]
  cases h2 : l[k]? <;> cases h3 : l'[k]? <;> rw [h2, h3] at h1 <;> simp at h1 ⊢
  exact h1
set_option maxHeartbeats 4000000 in
set_option maxRecDepth 100000 in
theorem equalMs_gen (g : Nat) (eg : ∀ args w, (callFunc g args).run Tryz.prog w = .ok (.enter g args) w) (hp : ∀ (u v : MsV) (w : World), u.m = v.m → MsIn w u → MsIn w v → Calls Tryz.prog g #[msV u, msV v] w fun e w' => e = .returned (.bool true) ∧ Below w.heap.size w w') (w : World) (a b : Option Addr) (n c d : Nat) (l l' : List MsV) (ha : IsMsgs w a n c l) (hb : IsMsgs w b n d l') (hm : msL l = msL l') :
    Calls Tryz.prog 25 #[.slice a n c, .slice b n d, .func (.func g) #[] #[]] w fun e w' => e = .returned (.bool true) ∧ Below w.heap.size w w' := by
  have hn63 : n ≤ 9223372036854775807 := by have h1 := ha.row.le; have h2 := ha.row.max; unfold maxLen at h2; omega
  have hn63' : (n : Int) ≤ 9223372036854775807 := by omega
  have HP := Hid.mk hp
  have HA := Hid.mk ha
  have HB := Hid.mk hb
  have HM := Hid.mk (msL_at hm)
  clear ha hb hm hp
  go_enter Tryz.func25, Tryz.ntmps25
  go_wp2_with fail
  go_loopw [17] (fun i wr => ∃ k : Nat, k ≤ n ∧ i = .int .i64 k ∧ Hid (Below w.heap.size w wr)) (fun i _ => n - (intOf i).toNat)
  case atStart => exact ⟨0, Nat.zero_le _, rfl, Hid.mk (Below.refl _ _)⟩
  case round =>
    obtain ⟨k, hk, rfl, HBr⟩ := hrel
    by_cases hlt : k < n
    · have hRa := HA.out.kept HBr.out
      have hRb := HB.out.kept HBr.out
      obtain ⟨x, hx⟩ := hRa.row.some hlt
      obtain ⟨y, hy⟩ := hRb.row.some hlt
      cases hx
      cases hy
      obtain ⟨g0, g1, g2, g3, g4, g5⟩ := hRa.at hlt
      have hRc := fun u => ((hRb.kept (ms_box wr u)).at hlt)
      have HIa := Hid.mk (hRa.each _ (hRa.mem hlt))
      have HIb := Hid.mk (hRb.each _ (hRb.mem hlt))
      have hmk := HM.out k
      clear hRa hRb
      generalize l.getD k noM = u at *
      generalize l'.getD k noM = v at *
      have hRd := hRc u
      obtain ⟨h0, h1, h2, h3, h4, h5⟩ := hRd
      clear hRc
      have HSM := Hid.mk (fun W (h : Below wr.heap.size wr W) => HP.out u v W hmk (HIa.out.kept h) (HIb.out.kept h))
      have HX1 := Hid.mk (ms_box wr u)
      have HX2 := Hid.mk (bl2 HX1.out (ms_box (wr.alloc (msC u)) v))
      clear hmk HIa HIb HX1
      obtain ⟨⟨id, lo, nm, size, ch, sigs⟩, ma, mn, mc⟩ := u
      obtain ⟨⟨id2, lo2, nm2, size2, ch2, sigs2⟩, ma2, mn2, mc2⟩ := v
      unfold msC at HX2 h0 h1 h2 h3 h4 h5
      unfold msV at HSM
      simp only at g0 g1 g2 g3 g4 g5 h0 h1 h2 h3 h4 h5 HX2 HSM
      have hlt' : (k : Int) < (n : Int) := by omega
      have HC := Hid.mk (HSM.out _ HX2.out)
      clear HSM
      go_wp2_with (go_at_fn g; refine HC.out.mono ?_; rintro e w1 ⟨rfl, hb1⟩)
      have HB1 := Hid.mk (bl2 HBr.out (bl2 HX2.out hb1))
      clear hb1 g0 g1 g2 g3 g4 g5 h0 h1 h2 h3 h4 h5
      go_roundw
      case rel => exact ⟨k + 1, by omega, by go_num, HB1⟩
      case measure => simp [intOf]; omega
    · go_wp2_with fail
      go_ret
      exact ⟨rfl, HBr.out⟩
theorem equalMs_true (w : World) (a b : Option Addr) (n c d : Nat) (l l' : List MsV) (ha : IsMsgs w a n c l) (hb : IsMsgs w b n d l') (hm : msL l = msL l') :
    Calls Tryz.prog 25 #[.slice a n c, .slice b n d, .func (.func 26) #[] #[]] w fun e w' => e = .returned (.bool true) ∧ Below w.heap.size w w' :=
  equalMs_gen _ enter_same (fun u v W h hu hv => sameM_true u v W h hu hv) w a b n c d l l' ha hb hm
end Bw
end Go.Proofs.YtlnkhlifkooohaaGreatDoor
namespace Go.Proofs.YtlnkhlifkooohaaGreatDoor
open Go.ChangeShapes Go.WideShapes Go.ChangeAt Go.RowKit
namespace Bw
open Sm
theorem SizesAt_k {w w' : World} (h : SizesAt w) (hb : Below w.heap.size w w') : SizesAt w' := h.kept hb
/-- a row of one message that is made at once -/
theorem one_msg (v : MsV) (w : World) (h : MsIn w v) : IsMsgs (w.alloc (msC v)) (some ⟨w.heap.size, 0, none⟩) 1 1 [v] := by
  refine ⟨⟨rfl, Nat.le_refl _, by unfold maxLen; omega, fun e => (by cases e), fun x hx i hi k hk => ?_⟩, fun u hu => ?_⟩
  · cases hx
    have e : i = 0 := by simp at hi; omega
    subst e
    have hA : (⟨w.heap.size, 0, none⟩ : Addr).add (0 * 6 + k) = ⟨w.heap.size, k, none⟩ := by simp [Addr.add]; intro h; omega
    rw [hA, cell_of_row _ _ k _ _ _ (heap_alloc_new w (msC v))]
    rw [List.getElem?_toArray]
    rfl
  · rw [List.mem_singleton] at hu
    subst hu
    exact h.kept (ms_box w u)
theorem en_text : textT [enM] = [109, 101, 115, 115, 97, 103, 101, 32, 101, 110, 103, 105, 110, 101, 32, 49, 48, 48, 32, 50, 32, 119, 104, 105, 99, 104, 10, 115, 105, 103, 110, 97, 108, 32, 119, 104, 105, 99, 104, 32, 48, 58, 56, 60, 43, 32, 49, 47, 49, 32, 48, 32, 45, 10, 115, 105, 103, 110, 97, 108, 32, 104, 101, 97, 116, 32, 56, 58, 56, 60, 43, 32, 49, 47, 49, 32, 48, 32, 48, 10, 115, 105, 103, 110, 97, 108, 32, 108, 111, 97, 100, 32, 56, 58, 56, 60, 43, 32, 49, 47, 49, 32, 48, 32, 49, 10] := by
  have d : ∀ u : Nat, u < 10 → Lib.decDigits u = [UInt8.ofNat (48 + u)] := fun u h => by rw [Lib.decDigits]; simp [h]
  have i0 : Lib.itoa 0 = [48] := by unfold Lib.itoa; rw [if_neg (by omega)]; exact d 0 (by omega)
  have i1 : Lib.itoa 1 = [49] := by unfold Lib.itoa; rw [if_neg (by omega)]; exact d 1 (by omega)
  have i2 : Lib.itoa 2 = [50] := by unfold Lib.itoa; rw [if_neg (by omega)]; exact d 2 (by omega)
  have i8 : Lib.itoa 8 = [56] := by unfold Lib.itoa; rw [if_neg (by omega)]; exact d 8 (by omega)
  have i100 : Lib.itoa 100 = [49, 48, 48] := by
    unfold Lib.itoa
    rw [if_neg (by omega), show (100 : Int).toNat = 100 from rfl, Lib.decDigits, dif_neg (by omega), Lib.decDigits, dif_neg (by omega), d _ (by omega)]
    rfl
  simp [textT, msgT, sigsT, lineL, wordsM, wordsS, enM, enL, enS, lxL, chL, plL, faL, kyT, bkL, sgL, Msg.at, i0, i1, i2, i8, i100, Lib.join]
theorem en_chkV (a : Option Addr) (n c : Nat) : chkA [⟨enM, a, n, c⟩] = 0 := by
  have h1 : firstE (allE [⟨enM, a, n, c⟩]) 1 = 0 := by
    have h2 := en_chk
    first | rfl | (simp [firstE, allE, h2])
  exact h1
theorem en_chkA (l : List MsV) (h : msL l = [enM]) : chkA l = 0 := by
  unfold msL at h
  cases l with
  | nil => simp at h
  | cons v t =>
    cases t with
    | cons _ _ => simp at h
    | nil =>
      obtain ⟨m, a, n, c⟩ := v
      have e : m = enM := by simpa using h
      subst e
      exact en_chkV a n c
end Bw
end Go.Proofs.YtlnkhlifkooohaaGreatDoor
namespace Go.Proofs.YtlnkhlifkooohaaGreatDoor
open Go.ChangeShapes Go.WideShapes Go.ChangeAt Go.RowKit
namespace Bw
open Sm
theorem en_okM : OkM enM := chkM_ok en_chk
theorem en_len : (textT [enM]).length ≤ 4000 := by rw [en_text]; decide
theorem en_printE (g : Nat) : printE [enV g] = 0 := by
  unfold printE
  rw [if_neg (by rw [en_chkA [enV g] rfl]; simp)]
  rw [show textT (msL [enV g]) = textT [enM] from rfl, if_neg (by have := en_len; omega)]
theorem en_printS (g : Nat) : printS [enV g] = textT [enM] := by
  unfold printS
  rw [if_pos (en_printE g)]
  rfl
set_option maxHeartbeats 8000000 in
set_option maxRecDepth 100000 in
theorem texted_any (w : World) (hS : SizesAt w) (hT : TxT w) :
    Calls Tryz.prog 22 #[] w fun e w' => e = .returned (.bool true) ∧ Below w.heap.size w w' := by
  have HE := Hid.mk (fun W => engine_any W)
  have hPR2 := fun g a W (h : Below w.heap.size w W) (hF : IsMsgs W a 1 1 [enV g]) => print_any a 1 1 [enV g] W hF (hS.kept h) (hT.kept h)
  simp only [en_printE, en_printS] at hPR2
  have hPA := fun W (h : Below w.heap.size w W) => parse_ok [enM] 1 W rfl (hT.kept h) (hS.kept h) (by omega) (fun m hm => by rw [List.mem_singleton.1 hm]; exact en_okM) en_len (fun vs h => en_chkA vs h)
  obtain ⟨X, hX⟩ : ∃ X : ByteArray, X = bA (textT [enM]) := ⟨_, rfl⟩
  rw [← hX] at hPA
  simp only [← hX] at hPR2
  have HPR := Hid.mk hPR2
  have HPA := Hid.mk hPA
  have hXl : (X.toList == [109, 101, 115, 115, 97, 103, 101, 32, 101, 110, 103, 105, 110, 101, 32, 49, 48, 48, 32, 50, 32, 119, 104, 105, 99, 104, 10, 115, 105, 103, 110, 97, 108, 32, 119, 104, 105, 99, 104, 32, 48, 58, 56, 60, 43, 32, 49, 47, 49, 32, 48, 32, 45, 10, 115, 105, 103, 110, 97, 108, 32, 104, 101, 97, 116, 32, 56, 58, 56, 60, 43, 32, 49, 47, 49, 32, 48, 32, 48, 10, 115, 105, 103, 110, 97, 108, 32, 108, 111, 97, 100, 32, 56, 58, 56, 60, 43, 32, 49, 47, 49, 32, 48, 32, 49, 10]) = true := by
    rw [ByteArray.toList_eq, hX, bA_list, en_text]
    exact beq_self_eq_true _
  clear hPR2 hPA hX hS hT
  unfold msV enV enM at HE
  simp only at HE
  go_enter Tryz.func22, Tryz.ntmps22
  go_wp2_with fail
  refine (HE.out _).mono ?_
  rintro e w1 ⟨g, rfl, hM1, hb1⟩
  have HA1 := Hid.mk (ms_box w1 (enV g))
  have HR1 := Hid.mk (one_msg (enV g) w1 hM1)
  have HB1 := Hid.mk (bl2 hb1 HA1.out)
  have HP1 := Hid.mk (HPR.out g _ _ HB1.out HR1.out)
  unfold msC enV enM at HP1 HB1
  simp only at HP1 HB1
  clear HA1 HR1 hM1 hb1 HPR
  go_wp2_with fail
  refine HP1.out.mono ?_
  rintro e w2 ⟨rfl, hb2⟩
  have HB2 := Hid.mk (bl2 HB1.out hb2)
  clear hb2 HP1 HB1
  go_wp2_with fail
  refine (HPA.out _ HB2.out).mono ?_
  rintro e w3 ⟨a3, c3, vs, rfl, HV3, hmv, HB3⟩
  have HB3' := Hid.mk (bl2 HB2.out HB3.out)
  clear HB2 HB3 HPA
  go_wp2_with fail
  refine (HE.out _).mono ?_
  rintro e w4 ⟨g4, rfl, hM4, hb4⟩
  have HA4 := Hid.mk (ms_box w4 (enV g4))
  have HR4 := Hid.mk (one_msg (enV g4) w4 hM4)
  have HB4 := Hid.mk (bl2 HB3'.out (bl2 hb4 HA4.out))
  have HEQ := Hid.mk (equalMs_true _ a3 _ 1 c3 1 vs [enV g4] (HV3.out.kept (bl2 hb4 HA4.out)) HR4.out hmv)
  unfold msC enV enM at HEQ HB4
  simp only at HEQ HB4
  clear HA4 HR4 hM4 hb4 hmv HV3 HB3' HE
  go_wp2_with fail
  refine HEQ.out.mono ?_
  rintro e w5 ⟨rfl, hb5⟩
  have HB5 := Hid.mk (bl2 HB4.out hb5)
  clear hb5 HB4 HEQ
  go_wp2_with fail
  go_ret
  exact ⟨rfl, HB5.out⟩
end Bw
end Go.Proofs.YtlnkhlifkooohaaGreatDoor
