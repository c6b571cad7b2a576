/- What bytes.Equal and frame.Same answer. -/
import Derived.Test.YtapjiopnjfldhaaDoorA8
import Derived.Test.YtapjiopnjfldhaaDoorFrCheck
namespace Go.Proofs.YtapjiopnjfldhaaDoor
open Go.ChangeShapes Go.WideShapes Go.ChangeAt Go.RowKit
namespace Bw
open Bm Cm Classical

theorem convert_bytes {w : World} {a : Option Addr} {len cap : Nat} {l : List UInt8} (h : IsBytes w a len cap l) :
    (convert 26 9 (.slice a len cap)).run Tryd.prog w = .ok (.string ⟨l.toArray⟩) w := by
  obtain ⟨h1, h2, h3, h4, h5⟩ := h
  cases a with
  | none =>
    have h0 := h4 rfl
    subst h0
    have hl : l = [] := List.eq_nil_of_length_eq_zero h1
    subst hl
    exact run_convert_bytes_nil w 26 5 Tryd.underlying26 Tryd.underlying5 0 cap 9 Tryd.underlying9
  | some x =>
    have := run_convert_bytes_back w 26 9 5 x cap l Tryd.underlying26 Tryd.underlying5 Tryd.underlying9 (fun j hj => by
      rw [h5 x rfl j (by omega)]
      simp [List.getD, hj])
    rw [h1] at this
    exact this
theorem ba_listEq {A B : ByteArray} {x y : List UInt8} (hA : A.data.toList = x) (hB : B.data.toList = y) : (A.toList == B.toList) = decide (x = y) := by
  rw [ByteArray.toList_eq, ByteArray.toList_eq, hA, hB, Bool.eq_iff_iff, beq_iff_eq, decide_eq_true_iff]
set_option maxHeartbeats 1000000 in
theorem bytesEqual_any (a1 a2 : Option Addr) (n1 c1 n2 c2 : Nat) (l1 l2 : List UInt8) (w : World) (h1 : IsBytes w a1 n1 c1 l1) (h2 : IsBytes w a2 n2 c2 l2) :
    Calls Tryd.prog 53 #[.slice a1 n1 c1, .slice a2 n2 c2] w fun e w' => e = .returned (.bool (decide (l1 = l2))) ∧ w' = w := by
  have k1 := convert_bytes h1
  have k2 := convert_bytes h2
  have hl1 := mk_list l1
  have hl2 := mk_list l2
  have hz1 : l1.length ≤ maxLen := by rw [h1.1]; have := h1.2.1; have := h1.2.2.1; omega
  have hz2 : l2.length ≤ maxLen := by rw [h2.1]; have := h2.2.1; have := h2.2.2.1; omega
  generalize ByteArray.mk l1.toArray = A at *
  generalize ByteArray.mk l2.toArray = B at *
  have he := ba_listEq hl1 hl2
  rw [← he]
  clear h1 h2 hl1 hl2 he hz1 hz2
  go_enter Tryd.func53, Tryd.ntmps53
  go_wp2_with fail
  go_ret
  exact ⟨rfl, rfl⟩

set_option maxHeartbeats 8000000 in
theorem same_any (f g : Fr) (a1 a2 : Option Addr) (n1 c1 n2 c2 : Nat) (w : World) (h1 : IsBytes w a1 n1 c1 f.dt) (h2 : IsBytes w a2 n2 c2 g.dt) :
    Calls Tryd.prog 26 #[frameV f.id f.lo f.fa f.re f.sz a1 n1 c1, frameV g.id g.lo g.fa g.re g.sz a2 n2 c2] w fun e w' => e = .returned (.bool (decide (f = g))) ∧ Below w.heap.size w w' := by
  obtain ⟨id1, lo1, fa1, re1, sz1, dt1⟩ := f
  obtain ⟨id2, lo2, fa2, re2, sz2, dt2⟩ := g
  simp only at h1 h2 ⊢
  have hB1 := below_box w id1 lo1 fa1 re1 sz1 a1 n1 c1
  have hB2 := below_box (w.alloc (frameC id1 lo1 fa1 re1 sz1 a1 n1 c1)) id2 lo2 fa2 re2 sz2 a2 n2 c2
  have hB := bl2 hB1 hB2
  have HY1 := Hid.mk (isBytes_below h1 hB)
  have HY2 := Hid.mk (isBytes_below h2 hB)
  have HB := Hid.mk hB
  unfold frameC at HY1 HY2 HB
  unfold frameV
  clear h1 h2 hB1 hB2 hB
  by_cases hid : id1 = id2
  · subst hid
    by_cases hlo : lo1 = lo2
    · subst hlo
      by_cases hfa : fa1 = fa2
      · subst hfa
        by_cases hre : re1 = re2
        · subst hre
          by_cases hsz : sz1 = sz2
          · subst hsz
            by_cases hdt : dt1 = dt2
            · have hd : decide (dt1 = dt2) = true := by simpa using hdt
              have hbe := fun W hW1 hW2 => bytesEqual_any a1 a2 n1 c1 n2 c2 dt1 dt2 W hW1 hW2
              rw [hd] at hbe
              have HBE := Hid.mk hbe
              have hr : decide ((⟨id1, lo1, fa1, re1, sz1, dt1⟩ : Fr) = ⟨id1, lo1, fa1, re1, sz1, dt2⟩) = true := by simp [hdt]
              rw [hr]
              clear hbe hd hr hdt
              go_enter Tryd.func26, Tryd.ntmps26
              go_wp2_with fail
              refine (HBE.out _ HY1.out HY2.out).mono ?_
              rintro e w1 ⟨rfl, hw1⟩
              subst hw1
              go_wp2_with fail
              go_ret
              exact ⟨rfl, HB.out⟩
            · have hd : decide (dt1 = dt2) = false := by simpa using hdt
              have hbe := fun W hW1 hW2 => bytesEqual_any a1 a2 n1 c1 n2 c2 dt1 dt2 W hW1 hW2
              rw [hd] at hbe
              have HBE := Hid.mk hbe
              have hr : decide ((⟨id1, lo1, fa1, re1, sz1, dt1⟩ : Fr) = ⟨id1, lo1, fa1, re1, sz1, dt2⟩) = false := by simp [hdt]
              rw [hr]
              clear hbe hd hr hdt
              go_enter Tryd.func26, Tryd.ntmps26
              go_wp2_with fail
              refine (HBE.out _ HY1.out HY2.out).mono ?_
              rintro e w1 ⟨rfl, hw1⟩
              subst hw1
              go_wp2_with fail
              go_ret
              exact ⟨rfl, HB.out⟩
          · have hb : (sz1 == sz2) = false := by simpa using hsz
            have hr : decide ((⟨id1, lo1, fa1, re1, sz1, dt1⟩ : Fr) = ⟨id1, lo1, fa1, re1, sz2, dt2⟩) = false := by simp [hsz]
            rw [hr]
            clear hr hsz
            go_enter Tryd.func26, Tryd.ntmps26
            go_wp2_with fail
            go_ret
            exact ⟨rfl, HB.out⟩
        · have hb : (re1 == re2) = false := by simpa using hre
          have hr : decide ((⟨id1, lo1, fa1, re1, sz1, dt1⟩ : Fr) = ⟨id1, lo1, fa1, re2, sz2, dt2⟩) = false := by simp [hre]
          rw [hr]
          clear hr hre
          go_enter Tryd.func26, Tryd.ntmps26
          go_wp2_with fail
          go_ret
          exact ⟨rfl, HB.out⟩
      · have hb : (fa1 == fa2) = false := by simpa using hfa
        have hr : decide ((⟨id1, lo1, fa1, re1, sz1, dt1⟩ : Fr) = ⟨id1, lo1, fa2, re2, sz2, dt2⟩) = false := by simp [hfa]
        rw [hr]
        clear hr hfa
        go_enter Tryd.func26, Tryd.ntmps26
        go_wp2_with fail
        go_ret
        exact ⟨rfl, HB.out⟩
    · have hb : (lo1 == lo2) = false := by simpa using hlo
      have hr : decide ((⟨id1, lo1, fa1, re1, sz1, dt1⟩ : Fr) = ⟨id1, lo2, fa2, re2, sz2, dt2⟩) = false := by simp [hlo]
      rw [hr]
      clear hr hlo
      go_enter Tryd.func26, Tryd.ntmps26
      go_wp2_with fail
      go_ret
      exact ⟨rfl, HB.out⟩
  · have hb : (id1 == id2) = false := by simpa using hid
    have hr : decide ((⟨id1, lo1, fa1, re1, sz1, dt1⟩ : Fr) = ⟨id2, lo2, fa2, re2, sz2, dt2⟩) = false := by simp [hid]
    rw [hr]
    clear hr hid
    go_enter Tryd.func26, Tryd.ntmps26
    go_wp2_with fail
    go_ret
    exact ⟨rfl, HB.out⟩
end Bw
end Go.Proofs.YtapjiopnjfldhaaDoor
