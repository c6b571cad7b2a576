/- What message.Read answers of a right message and frame. -/
import Derived.Test.YtgjkioknnjbjfaaDoorMgRead
namespace Go.Proofs.YtgjkioknnjbjfaaDoor
open Go.ChangeShapes Go.WideShapes Go.ChangeAt Go.RowKit
namespace Bw
open Sm
theorem readE_ok {m : Msg} {id : Int} {lo fa re : Bool} {sz : Int} {n : Nat} (h : readE m id lo fa re sz n = 0) : OkM m ∧ frEn id lo fa re sz n = 0 ∧ (id = m.id ∧ lo = m.lo) ∧ re = false ∧ m.size ≤ n := by
  unfold readE at h
  split at h
  · rename_i h1; exact absurd h h1
  rename_i h1
  split at h
  · rename_i h2; exact absurd h h2
  rename_i h2
  split at h
  · omega
  rename_i h3
  split at h
  · omega
  rename_i h4
  refine ⟨chkM_ok (Decidable.not_not.1 h1), Decidable.not_not.1 h2, ?_, ?_, by omega⟩
  · exact Decidable.not_not.1 (fun h5 => h3 (.inl h5))
  · cases re
    · rfl
    · exact absurd (.inr rfl) h3
theorem rd_cells (w : World) (nm : ByteArray) (n d : Int) : (w.alloc (.cells #[.string nm, .int .i64 n, .int .i64 d] 43)).cell? ⟨w.heap.size, 0, none⟩ = some (.string nm) ∧ (w.alloc (.cells #[.string nm, .int .i64 n, .int .i64 d] 43)).cell? ⟨w.heap.size, 1, none⟩ = some (.int .i64 n) ∧ (w.alloc (.cells #[.string nm, .int .i64 n, .int .i64 d] 43)).cell? ⟨w.heap.size, 2, none⟩ = some (.int .i64 d) := by
  have h := fun j => cell_of_row _ _ j _ _ _ (heap_alloc_new w (.cells #[.string nm, .int .i64 n, .int .i64 d] 43))
  exact ⟨h 0, h 1, h 2⟩
set_option maxHeartbeats 16000000 in
set_option maxRecDepth 100000 in
theorem mread_ok (v : MsV) (id : Int) (lo fa re : Bool) (sz : Int) (a : Option Addr) (len cap : Nat) (dt : List UInt8) (w : World) (hM : MsIn w v) (hS : SizesAt w) (hD : IsBytes w a len cap dt) (hE : readE v.m id lo fa re sz len = 0) :
    Calls Tryd.prog 15 #[msV v, frameV id lo fa re sz a len cap] w fun e w' => ∃ u, e = .returned (.tuple #[u, .int .i64 0]) ∧ w'.ownsRow w.heap.size 43 3 u (readsD v.m dt).length (rdsC (readsD v.m dt)) ∧ Below w.heap.size w w' := by
  obtain ⟨i0, hi, hz0, hz1, hz2⟩ := info_parts info_rd
  obtain ⟨hO, hFE, hid, hre, hsz⟩ := readE_ok hE
  have hCM : chkM v.m = 0 := by
    unfold readE at hE
    split at hE
    · rename_i h1; exact absurd hE h1
    · rename_i h1; exact Decidable.not_not.1 h1
  have hl64 := frEn_len hFE
  obtain ⟨n8, hn8⟩ : ∃ n8 : Nat, v.m.size = n8 := ⟨v.m.size.toNat, by have := hO.size0; omega⟩
  have hn8l : n8 ≤ len := by omega
  have hlm : len ≤ maxLen := by unfold maxLen; omega
  have HBX := Hid.mk (rd_W0 w v id lo fa re sz a len cap)
  have HMA := Hid.mk (rd_W0m w v id lo fa re sz a len cap)
  have HFA := Hid.mk (rd_W0f w v id lo fa re sz a len cap)
  have hC := mcheck_any v _ (hM.kept HBX.out) (hS.kept HBX.out)
  rw [hCM] at hC
  have HC := Hid.mk hC
  have hK := fun W (h : Below w.heap.size w W) => frCheck_any id lo fa re sz a len cap W (hS.kept h) hlm
  rw [hFE] at hK
  have HK := Hid.mk hK
  have hI := fun W => isOf_any id lo fa re sz a len cap v W
  have hob : ofB id lo v = true := by unfold ofB; simp [hid.1, hid.2]
  rw [hob] at hI
  have HI := Hid.mk hI
  have HT := Hid.mk (fun W (h : Below w.heap.size w W) => isThere_any v a len cap dt W (hM.kept h) (isBytes_below hD h) hO hn8 hn8l hl64)
  have hlen : v.m.sigs.length = v.n := hM.row.len
  have hn16 : v.n ≤ 16 := by have := hO.many; omega
  have HRD := Hid.mk (fun i (hi : i < v.n) W (h : Below w.heap.size w W) => sread_is (v.m.at i) a len cap dt W (hM.wf _ (v.m.mem (by rw [hlen]; exact hi))) (isBytes_below hD h) (by rw [← hn8]; exact hO.sig (by rw [hlen]; exact hi)) hn8l hl64)
  have HROW := Hid.mk hM.row
  have HGD : Hid (∀ i, v.m.at i = v.m.sigs.getD i noS) := Hid.mk (fun _ => rfl)
  have HYES := Hid.mk (fun k (hk : k < v.n) (h : thB (choD v.m dt) (v.m.at k) = true) => readsK_yes v.m dt (by rw [hlen]; exact hk) h)
  have HNO := Hid.mk (fun k (hk : k < v.n) (h : thB (choD v.m dt) (v.m.at k) = false) => readsK_no v.m dt (by rw [hlen]; exact hk) h)
  have HLEN := Hid.mk (readsK_len v.m dt)
  have hall := readsK_all v.m dt
  rw [hlen] at hall
  rw [← hall]
  have HZ := Hid.mk (readsK_zero v.m dt)
  have hsl : ¬ ((len : Int) < v.m.size) := by omega
  have hlb : (len : Int) ≤ 9223372036854775807 := by omega
  clear hCM hC hK hI hob hE hO hFE hid hsz hM hS hD hlm hall
  generalize readsK v.m dt = RK at *
  generalize choD v.m dt = cho at *
  generalize hS : v.m.at = S at *
  clear hS
  obtain ⟨⟨mid, mlo, mnm, size, mch, sigs⟩, ma, mn, mcap⟩ := v
  unfold msC frameC at HBX HMA HFA HC
  unfold msV at HC HI HT ⊢
  unfold frameV at HK HI ⊢
  simp only at HBX HMA HFA HC HI HT HK HROW HGD HRD hn16 hsl HYES HNO ⊢
  subst hre
  clear hlen hn8 hn8l hl64
  go_enter Tryd.func15, Tryd.ntmps15
  go_wp2_with fail
  refine HC.out.mono ?_
  rintro e w1 ⟨rfl, hb1⟩
  have HB1 := Hid.mk (bl2 HBX.out hb1)
  have HF1 := Hid.mk (HFA.out.kept hb1)
  have HM1 := Hid.mk (HMA.out.kept hb1)
  obtain ⟨c0, c1, c2, c3, c4, c5⟩ := HF1.out
  clear hb1 HC HBX HFA HMA
  go_wp2_with fail
  refine (HK.out _ HB1.out).mono ?_
  rintro e w2 ⟨rfl, hb2⟩
  have HB2 := Hid.mk (bl2 HB1.out hb2)
  have HF2 := Hid.mk (HF1.out.kept hb2)
  have HM2 := Hid.mk (HM1.out.kept hb2)
  obtain ⟨c0, c1, c2, c3, c4, c5⟩ := HF2.out
  obtain ⟨m0, m1, m2, m3, m4, m5⟩ := HM2.out
  simp only at m0 m1 m2 m3 m4 m5
  clear hb2 HF1 HM1 HB1
  go_wp2_with fail
  refine (HI.out _).mono ?_
  rintro e w3 ⟨rfl, hb3⟩
  have HB3 := Hid.mk (bl2 HB2.out hb3)
  have HF3 := Hid.mk (HF2.out.kept hb3)
  have HM3 := Hid.mk (HM2.out.kept hb3)
  obtain ⟨c0, c1, c2, c3, c4, c5⟩ := HF3.out
  obtain ⟨m0, m1, m2, m3, m4, m5⟩ := HM3.out
  simp only at m0 m1 m2 m3 m4 m5
  clear hb3 HF2 HM2 HB2 HK HI
  go_wp2_with fail
  refine (HT.out _ HB3.out).mono ?_
  rintro e w4 ⟨gt, rfl, hgt, hgb, hb4⟩
  have HB4 := Hid.mk (bl2 HB3.out hb4)
  have HF4 := Hid.mk (HF3.out.kept hb4)
  have HM4 := Hid.mk (HM3.out.kept hb4)
  have HGT := Hid.mk hgt
  obtain ⟨m0, m1, m2, m3, m4, m5⟩ := HM4.out
  simp only at m0 m1 m2 m3 m4 m5
  clear hb4 HF3 HM3 HB3 HT hgt hgb
  have hent := enter_there
  go_wp2_with fail
  go_loopw [9, 48] (fun u i wr => ∃ k : Nat, k ≤ mn ∧ i = .int .i64 k ∧ Hid (wr.ownsRow w4.heap.size 43 3 u (RK k).length (rdsC (RK k))) ∧ Hid (Below w4.heap.size w4 wr)) (fun _ i _ => mn - (intOf i).toNat)
  case atStart => exact ⟨0, Nat.zero_le _, rfl, Hid.mk (by rw [HZ.out]; exact World.ownsRow_nil _ _ _ _), Hid.mk (Below.refl _ _)⟩
  case round =>
    obtain ⟨k, hk, rfl, HOW, HB⟩ := hrel
    by_cases hlt : k < mn
    · have hlt' : (k : Int) < (mn : Int) := by omega
      obtain ⟨x, hx⟩ := HROW.out.some hlt
      subst hx
      have hSg := (HROW.out.kept (bl2 HB4.out HB.out)).at hlt
      rw [← HGD.out] at hSg
      have HBX1 := Hid.mk (sg_box wr (S k))
      have HSAT := Hid.mk (SgAt.box wr (S k))
      have HTH := Hid.mk (fun W (hb : Below wr.heap.size wr W) => there_any (S k) gt cho W (cell_kept (bl2 HB.out hb) HGT.out))
      have HRk := Hid.mk (HRD.out k hlt)
      have HYk := Hid.mk (HYES.out k hlt)
      have HNk := Hid.mk (HNO.out k hlt)
      have hlk := HLEN.out k
      generalize thB cho (S k) = TH at *
      generalize rdD (S k) dt = RR at *
      generalize rawD (S k) dt = RW at *
      generalize S k = sk at *
      obtain ⟨nm, st, sz', bk, sg, mu, di, ad, ky⟩ := sk
      obtain ⟨rnm, rnum, rden⟩ := RR
      unfold sgC at HBX1 HSAT
      unfold sgV at HTH HRk
      unfold rdV at HRk
      simp only at HBX1 HSAT HTH HRk HYk HNk
      obtain ⟨s0, s1, s2, s3, s4, s5, s6, s7, s8⟩ := hSg
      simp only at s0 s1 s2 s3 s4 s5 s6 s7 s8
      cases TH with
      | false =>
        have hn := HNk.out rfl
        have HN := Hid.mk hn
        clear hn HYk HNk
        go_wp2_with (go_at_fn 58; refine (HTH.out _ HBX1.out).mono ?_; rintro e w5 ⟨rfl, hb5⟩)
        have HB5 := Hid.mk (bl2 HB.out (bl2 HBX1.out hb5))
        have HO5 := Hid.mk (ownsRow_below HOW.out (bl2 HBX1.out hb5))
        clear hb5
        go_roundw
        case rel => exact ⟨k + 1, by omega, by go_num, by rw [HN.out]; exact HO5, HB5⟩
        case measure => simp [intOf]; omega
      | true =>
        have hn := HYk.out rfl
        have HN := Hid.mk hn
        clear hn HYk HNk
        go_wp2_with (go_at_fn 58; refine (HTH.out _ HBX1.out).mono ?_; rintro e w5 ⟨rfl, hb5⟩; have HB5 := Hid.mk (bl2 HB.out (bl2 HBX1.out hb5)); have HO5 := Hid.mk (ownsRow_below HOW.out (bl2 HBX1.out hb5)); obtain ⟨s0, s1, s2, s3, s4, s5, s6, s7, s8⟩ := HSAT.out.kept hb5; obtain ⟨c0, c1, c2, c3, c4, c5⟩ := HF4.out.kept HB5.out; clear hb5; simp only at s0 s1 s2 s3 s4 s5 s6 s7 s8)
        refine (HRk.out _ (bl2 HB4.out HB5.out)).mono ?_
        rintro e w6 ⟨rfl, hb6⟩
        have HB6 := Hid.mk (bl2 HB5.out hb6)
        have HO6 := Hid.mk (ownsRow_below HO5.out hb6)
        have HA6 := Hid.mk (awB1 w6 (.cells #[.string rnm, .int .i64 rnum, .int .i64 rden] 43))
        have HRA := Hid.mk (rd_cells w6 rnm rnum rden)
        have HB7 := Hid.mk (bl2 HB6.out HA6.out)
        have HO7 := Hid.mk (ownsRow_below HO6.out HA6.out)
        obtain ⟨r0, r1, r2⟩ := HRA.out
        have hlk' : (RK k).length ≤ 16 := by omega
        clear hb6 s0 s1 s2 s3 s4 s5 s6 s7 s8 c0 c1 c2 c3 c4 c5
        go_wp2_with (at_builtin; refine wpList_append_own _ rfl (.tmp 63) (.tmp 65) 39 rfl w4.heap.size 43 i0 (.agg #[.string ⟨#[]⟩, .int .i64 0, .int .i64 0]) 3 32 Tryd.underlying39 hi hz0 hz1 hz2 rfl (by decide) _ _ _ rfl (HO7.out.alloc _) ⟨w6.heap.size + 1, 0, none⟩ 1 1 [Value.string rnm, Value.int .i64 rnum, Value.int .i64 rden] rfl rfl (row3_atR _ _ (by simp) _ _ _ _) (by intro u hu; simp at hu; rcases hu with rfl | rfl | rfl <;> rfl) (by unfold maxLen; omega) (by omega) (by have := HB7.out.size; simp at this; simp; omega) ?_; intro v8 w8 hown8 hgrow8 _)
        have hB8 : Below w4.heap.size w4 w8 := Below.grown (HB7.out.alloc HB7.out.size _) hgrow8 (by have := HB7.out.size; simp at this; simp; omega) (fun q hq => (HO7.out.lt q hq).1)
        have hown9 := hown8
        rw [← rdsC_one ⟨rnm, rnum, rden⟩, ← rdsC_append, ← HN.out, show (RK k).length + 1 = (RK (k + 1)).length by rw [HN.out]; simp] at hown9
        have HO9 := Hid.mk hown9
        have HB9 := Hid.mk hB8
        clear hown8 hown9 hB8 hgrow8
        go_roundw
        case rel => exact ⟨k + 1, by omega, by go_num, HO9, HB9⟩
        case measure => simp [intOf]; omega
    · have e : k = mn := by omega
      subst e
      go_wp2_with fail
      go_ret2
      exact ⟨_, rfl, owns_baseP HOW.out HB4.out.size, bl2 HB4.out HB.out⟩
end Bw
end Go.Proofs.YtgjkioknnjbjfaaDoor
