/- What message.Read answers. -/
import Derived.Test.YtgjkioknnjbjfaaDoorMgThere
namespace Go.Proofs.YtgjkioknnjbjfaaDoor
open Go.ChangeShapes Go.WideShapes Go.ChangeAt Go.RowKit
namespace Bw
open Sm
/-- readings as cells -/
def rdsC (l : List Rd) : List Value := l.flatMap rdCl
theorem rdsC_append (a b : List Rd) : rdsC (a ++ b) = rdsC a ++ rdsC b := by simp [rdsC]
theorem rdsC_one (r : Rd) : rdsC [r] = [.string r.nm, .int .i64 r.num, .int .i64 r.den] := by simp [rdsC, rdCl]
def readsK (m : Msg) (l : List UInt8) (k : Nat) : List Rd := ((m.sigs.take k).filter (thB (choD m l))).map (fun s => rdD s l)
theorem readsK_zero (m : Msg) (l : List UInt8) : readsK m l 0 = [] := rfl
theorem readsK_all (m : Msg) (l : List UInt8) : readsK m l m.sigs.length = readsD m l := by unfold readsK readsD; rw [List.take_length]
theorem take_next (m : Msg) {k : Nat} (hk : k < m.sigs.length) : m.sigs.take (k + 1) = m.sigs.take k ++ [m.at k] := by
  rw [List.take_succ_eq_append_getElem hk]
  unfold Msg.at
  simp [List.getD, hk]
theorem readsK_yes (m : Msg) (l : List UInt8) {k : Nat} (hk : k < m.sigs.length) (h : thB (choD m l) (m.at k) = true) : readsK m l (k + 1) = readsK m l k ++ [rdD (m.at k) l] := by
  unfold readsK
  rw [take_next m hk, List.filter_append, List.map_append]
  simp [h]
theorem readsK_no (m : Msg) (l : List UInt8) {k : Nat} (hk : k < m.sigs.length) (h : thB (choD m l) (m.at k) = false) : readsK m l (k + 1) = readsK m l k := by
  unfold readsK
  rw [take_next m hk, List.filter_append]
  simp [h]
theorem readsK_len (m : Msg) (l : List UInt8) (k : Nat) : (readsK m l k).length ≤ k := by
  unfold readsK
  rw [List.length_map]
  exact Nat.le_trans (List.length_filter_le _ _) (by simp; omega)
theorem info_rd : (Tryd.prog.info? 43).map (fun i => (i.zero, i.size, i.bytes)) = some (some (.agg #[.string ⟨#[]⟩, .int .i64 0, .int .i64 0]), 3, 32) := by kernel_rfl
theorem row3_atR (W : World) (s : Nat) (hs : s = W.heap.size) (a b c : Value) (t : TypeId) : ∀ j u, [a, b, c][j]? = some u → (W.alloc (.cells #[a, b, c] t)).cell? ((⟨s, 0, none⟩ : Addr).add j) = some u := by
  subst hs
  have h := heap_alloc_new W (.cells #[a, b, c] t)
  intro j u hj
  have ea : (Addr.add ⟨W.heap.size, 0, none⟩ j) = ⟨W.heap.size, j, none⟩ := by simp [Addr.add]; exact fun h => h.symm
  rw [ea, cell_of_row _ _ j _ _ _ h, List.getElem?_toArray]
  exact hj
theorem frEn_len {id : Int} {lo fa re : Bool} {sz : Int} {n : Nat} (h : frEn id lo fa re sz n = 0) : n ≤ 64 := by
  unfold frEn at h
  split at h
  · omega
  split at h
  · omega
  split at h
  · omega
  split at h
  · omega
  rename_i h4
  omega
theorem rd_W0 (w : World) (v : MsV) (id : Int) (lo fa re : Bool) (sz : Int) (a : Option Addr) (len cap : Nat) : Below w.heap.size w ((w.alloc (msC v)).alloc (frameC id lo fa re sz a len cap)) := ((Below.refl _ _).alloc (Nat.le_refl _) _).alloc (by simp) _
theorem rd_W0m (w : World) (v : MsV) (id : Int) (lo fa re : Bool) (sz : Int) (a : Option Addr) (len cap : Nat) : MsAt ((w.alloc (msC v)).alloc (frameC id lo fa re sz a len cap)) w.heap.size v := (MsAt.box w v).kept (awB1 _ _)
theorem rd_W0f (w : World) (v : MsV) (id : Int) (lo fa re : Bool) (sz : Int) (a : Option Addr) (len cap : Nat) : FrAt ((w.alloc (msC v)).alloc (frameC id lo fa re sz a len cap)) (w.heap.size + 1) id lo fa re sz a len cap := by
  have := FrAt.box (w.alloc (msC v)) id lo fa re sz a len cap
  rw [show (w.alloc (msC v)).heap.size = w.heap.size + 1 by simp] at this
  exact this
set_option maxHeartbeats 8000000 in
set_option maxRecDepth 100000 in
theorem mread_bad (v : MsV) (id : Int) (lo fa re : Bool) (sz : Int) (a : Option Addr) (len cap : Nat) (w : World) (hM : MsIn w v) (hS : SizesAt w) (hl : len ≤ maxLen) (hE : readE v.m id lo fa re sz len ≠ 0) :
    Calls Tryd.prog 15 #[msV v, frameV id lo fa re sz a len cap] w fun e w' => e = .returned (.tuple #[.slice none 0 0, .int .i64 (readE v.m id lo fa re sz len)]) ∧ Below w.heap.size w w' := by
  have HBX := Hid.mk (rd_W0 w v id lo fa re sz a len cap)
  have HMA := Hid.mk (rd_W0m w v id lo fa re sz a len cap)
  have HFA := Hid.mk (rd_W0f w v id lo fa re sz a len cap)
  have HC := Hid.mk (mcheck_any v _ (hM.kept HBX.out) (hS.kept HBX.out))
  have HK := Hid.mk (fun W (h : Below w.heap.size w W) => frCheck_any id lo fa re sz a len cap W (hS.kept h) hl)
  have HI := Hid.mk (fun W => isOf_any id lo fa re sz a len cap v W)
  have hlb : (len : Int) ≤ 9223372036854775807 := by unfold maxLen at hl; omega
  have hR : readE v.m id lo fa re sz len = if chkM v.m ≠ 0 then chkM v.m else if frEn id lo fa re sz len ≠ 0 then frEn id lo fa re sz len else if ofB id lo v = false ∨ re = true then 8 else if (len : Int) < v.m.size then 7 else 0 := by
    unfold readE
    congr 2
    congr 1
    have e : (¬ (id = v.m.id ∧ lo = v.m.lo)) = (ofB id lo v = false) := by
      unfold ofB
      rw [Bool.and_eq_false_iff]
      apply propext
      constructor
      · intro h
        by_cases h1 : id = v.m.id
        · right; simpa using fun h2 => h ⟨h1, h2⟩
        · left; simpa using h1
      · rintro (h | h) ⟨h1, h2⟩
        · simp [h1] at h
        · simp [h2] at h
    rw [e]
  rw [hR] at hE ⊢
  generalize chkM v.m = CE at *
  generalize frEn id lo fa re sz len = FE at *
  generalize ofB id lo v = OB at *
  obtain ⟨⟨mid, mlo, mnm, size, mch, sigs⟩, ma, mn, mcap⟩ := v
  unfold msC frameC at HBX HMA HFA HC
  unfold msV at HC HI ⊢
  unfold frameV at HK HI ⊢
  simp only at HBX HMA HFA HC HI HK hE ⊢
  clear hM hS hl hR
  by_cases h0 : CE = 0
  case neg =>
    rw [if_pos h0]
    have hne : (CE != 0) = true := by simpa using h0
    clear h0 hE
    go_enter Tryd.func15, Tryd.ntmps15
    go_wp2_with fail
    refine HC.out.mono ?_
    rintro e w1 ⟨rfl, hb1⟩
    have HB1 := Hid.mk (bl2 HBX.out hb1)
    clear hb1
    go_wp2_with fail
    go_ret2
    exact ⟨rfl, HB1.out⟩
  case pos =>
    subst h0
    rw [if_neg (by simp : ¬ (0 : Int) ≠ 0)] at hE ⊢
    by_cases h1 : FE = 0
    case neg =>
      rw [if_pos h1]
      have hne : (FE != 0) = true := by simpa using h1
      clear h1 hE
      go_enter Tryd.func15, Tryd.ntmps15
      go_wp2_with fail
      refine HC.out.mono ?_
      rintro e w1 ⟨rfl, hb1⟩
      have HB1 := Hid.mk (bl2 HBX.out hb1)
      obtain ⟨c0, c1, c2, c3, c4, c5⟩ := HFA.out.kept hb1
      clear hb1
      go_wp2_with fail
      refine (HK.out _ HB1.out).mono ?_
      rintro e w2 ⟨rfl, hb2⟩
      have HB2 := Hid.mk (bl2 HB1.out hb2)
      clear hb2
      go_wp2_with fail
      go_ret2
      exact ⟨rfl, HB2.out⟩
    case pos =>
      subst h1
      rw [if_neg (by simp : ¬ (0 : Int) ≠ 0)] at hE ⊢
      generalize hRR : (if OB = false ∨ re = true then (8 : Int) else if (len : Int) < size then 7 else 0) = R at *
      have HR := Hid.mk hRR
      have HE := Hid.mk hE
      clear hRR hE
      go_enter Tryd.func15, Tryd.ntmps15
      go_wp2_with fail
      refine HC.out.mono ?_
      rintro e w1 ⟨rfl, hb1⟩
      have HB1 := Hid.mk (bl2 HBX.out hb1)
      have HF1 := Hid.mk (HFA.out.kept hb1)
      have HM1 := Hid.mk (HMA.out.kept hb1)
      obtain ⟨c0, c1, c2, c3, c4, c5⟩ := HF1.out
      clear hb1 HC HBX HFA HMA
      go_wp2_with fail
      refine (HK.out _ HB1.out).mono ?_
      rintro e w2 ⟨rfl, hb2⟩
      have HB2 := Hid.mk (bl2 HB1.out hb2)
      have HF2 := Hid.mk (HF1.out.kept hb2)
      have HM2 := Hid.mk (HM1.out.kept hb2)
      obtain ⟨c0, c1, c2, c3, c4, c5⟩ := HF2.out
      obtain ⟨m0, m1, m2, m3, m4, m5⟩ := HM2.out
      simp only at m0 m1 m2 m3 m4 m5
      clear hb2 HF1 HM1 HB1
      go_wp2_with fail
      refine (HI.out _).mono ?_
      rintro e w3 ⟨rfl, hb3⟩
      have HB3 := Hid.mk (bl2 HB2.out hb3)
      obtain ⟨c0, c1, c2, c3, c4, c5⟩ := HF2.out.kept hb3
      obtain ⟨m0, m1, m2, m3, m4, m5⟩ := HM2.out.kept hb3
      simp only at m0 m1 m2 m3 m4 m5
      clear hb3 HF2 HM2 HB2
      cases OB with
      | false =>
        have HV : Hid (R = 8) := Hid.mk (by rw [← HR.out, if_pos (.inl rfl)])
        clear HR
        go_wp2_with fail
        go_ret2
        exact ⟨by rw [HV.out]; rfl, HB3.out⟩
      | true =>
        cases re with
        | true =>
          have HV : Hid (R = 8) := Hid.mk (by rw [← HR.out, if_pos (.inr rfl)])
          clear HR
          go_wp2_with fail
          go_ret2
          exact ⟨by rw [HV.out]; rfl, HB3.out⟩
        | false =>
          have hls : (len : Int) < size := by
            have h1 := HE.out
            have h2 := HR.out
            rw [if_neg (by simp)] at h2
            by_cases h3 : (len : Int) < size
            · exact h3
            · rw [if_neg h3] at h2; exact absurd h2.symm h1
          have HV : Hid (R = 7) := Hid.mk (by rw [← HR.out, if_neg (by simp), if_pos hls])
          clear HR
          go_wp2_with fail
          go_ret2
          exact ⟨by rw [HV.out]; rfl, HB3.out⟩
end Bw
end Go.Proofs.YtgjkioknnjbjfaaDoor
