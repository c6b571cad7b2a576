/- The law BitsBack returns true for all inputs, where Go's tables of unicode/utf8 lie as their initialisers lay them. -/
import Derived.Test.YtcoemhndpmdccaaDoorEqualB
namespace Go.Proofs.YtcoemhndpmdccaaDoor
open Go.ChangeShapes Go.WideShapes Go.ChangeAt Go.RowKit
namespace Bw
open Bm

theorem mk_list (l : List UInt8) : (ByteArray.mk l.toArray).data.toList = l := by simp
theorem mk_size (l : List UInt8) : (ByteArray.mk l.toArray).size = l.length := by show l.toArray.size = _; simp

theorem row_all (n size : Int) (w : World) (wn : (Lit.int .i64 n).wf = true) :
    Calls Tryd.prog 8 #[.int .i64 n, .int .i64 size] w fun e w' => ∃ (sb : ByteArray) (x : Int), e = .returned (.tuple #[.string sb, .int .i64 x]) ∧ sb.size ≤ 62 ∧
      (x = 0 → numE sb.data.toList = 0 ∧ numV sb.data.toList = n ∧ (sb.size : Int) = size) ∧ Below w.heap.size w w' := by
  by_cases h1 : size < 0 ∨ 62 < size
  · exact (row_many n size w h1).mono fun e w' ⟨he, hw⟩ => ⟨_, 2, he, by show (0 : Nat) ≤ 62; omega, fun h => absurd h (by omega), hw ▸ Below.refl _ _⟩
  · by_cases h2 : n < 0 ∨ 2 ^ size.toNat ≤ n
    · exact (row_range n size w (by omega) (by omega) h2).mono fun e w' ⟨he, hw⟩ => ⟨_, 3, he, by show (0 : Nat) ≤ 62; omega, fun h => absurd h (by omega), hw ▸ Below.refl _ _⟩
    · obtain ⟨N, rfl⟩ := Int.eq_ofNat_of_zero_le (show 0 ≤ n by omega)
      obtain ⟨S, rfl⟩ := Int.eq_ofNat_of_zero_le (show 0 ≤ size by omega)
      have hlt : N < 2 ^ S := by
        have h3 : (N : Int) < 2 ^ S := by
          have e : ((S : Int)).toNat = S := by omega
          rw [e] at h2; omega
        exact_mod_cast h3
      refine (row_ok N S w (by omega) hlt).mono fun e w' ⟨he, hw⟩ => ⟨_, 0, he, by rw [mk_size, bitsHead_length]; omega, fun _ => ?_, hw⟩
      rw [mk_list, mk_size, bitsHead_length]
      have hE := numE_row (bitsHead_row N S S) (by rw [bitsHead_length]; omega)
      refine ⟨hE, ?_, rfl⟩
      unfold numV
      rw [if_pos hE, val_row N S hlt]

theorem of_all (a : Option Addr) (len cap : Nat) (l : List UInt8) (w : World) (hr : IsBytes w a len cap l) :
    Calls Tryd.prog 15 #[.slice a len cap] w fun e w' => ∃ (sb : ByteArray) (x : Int) (q : Nat), e = .returned (.tuple #[.string sb, .int .i64 x]) ∧ checkE sb.data.toList = 0 ∧ sb.size = 8 * q ∧
      (x = 0 → bytesL sb.data.toList = l ∧ q = len) ∧ Below w.heap.size w w' := by
  by_cases h1 : 125 < len
  · exact (of_many a len cap w h1 (Nat.le_trans hr.2.1 hr.2.2.1)).mono fun e w' ⟨he, hw⟩ => ⟨_, 2, 0, he, rfl, rfl, fun h => absurd h (by omega), hw ▸ Below.refl _ _⟩
  · have hl := hr.1
    refine (of_any a len cap l w (by omega) hr).mono fun e w' ⟨he, hw⟩ => ⟨_, 0, len, he, ?_, ?_, fun _ => ?_, hw⟩
    · rw [mk_list]; exact checkE_row (ofL_row l) (by rw [ofL_length]; omega)
    · rw [mk_size, ofL_length, hl]
    · rw [mk_list]; exact ⟨bytesL_ofL l, rfl⟩

theorem hasBytes_own {w : World} {base : Nat} {v : Value} {n : Nat} {l : List UInt8} (h : w.ownsRow base 5 1 v n (cellsOf l)) :
    ∃ a c, v = .slice a n c ∧ HasBytes w a n l := by
  have h0 := h
  obtain ⟨hl, h2⟩ := h
  have hn : l.length = n := by simpa [cellsOf] using hl
  rcases h2 with ⟨rfl, h1⟩ | ⟨g, cap, cur, rfl, hg, hh, hc, hm, hsz, htk⟩
  · subst h1; exact ⟨none, 0, rfl, (fun _ => rfl), (fun x hx => by cases hx)⟩
  · refine ⟨some ⟨g, 0, none⟩, cap, rfl, (fun h => by cases h), fun x hx i hi => ?_⟩
    cases hx
    exact h0.cells rfl i _ (by simp [cellsOf, hn, hi])

theorem isBytes_below {w w' : World} {a : Option Addr} {len cap : Nat} {l : List UInt8} (h : IsBytes w a len cap l) (hb : Below w.heap.size w w') : IsBytes w' a len cap l :=
  ⟨h.1, h.2.1, h.2.2.1, h.2.2.2.1, fun x hx i hi => cell_kept hb (h.2.2.2.2 x hx i hi)⟩
theorem isBytes_has {w : World} {a : Option Addr} {len cap : Nat} {l : List UInt8} (h : IsBytes w a len cap l) : HasBytes w a len l :=
  ⟨h.2.2.2.1, h.2.2.2.2⟩

theorem bl2 {w a b : World} (h1 : Below w.heap.size w a) (h2 : Below a.heap.size a b) : Below w.heap.size w b := h1.trans (h2.mono h1.size)

set_option maxHeartbeats 4000000 in
theorem back_any (n size : Int) (a : Option Addr) (len cap : Nat) (l : List UInt8) (b : ByteArray) (w : World) (wn : (Lit.int .i64 n).wf = true) (hr : IsBytes w a len cap l) (hb : b.size ≤ maxLen) (hT : Lib.Utf8Tabs 2 3 w) :
    Calls Tryd.prog 6 #[.int .i64 n, .int .i64 size, .slice a len cap, .string b] w fun e w' => e = .returned (.bool true) ∧ Below w.heap.size w w' := by
  have HN := Hid.mk wn
  have HR := Hid.mk hr
  have HB := Hid.mk hb
  have HT := Hid.mk hT
  clear wn hr hb hT
  go_enter Tryd.func6, Tryd.ntmps6
  go_wp2_with fail
  refine (row_all n size w HN.out).mono ?_
  rintro e w1 ⟨sb, x, rfl, hsb, hx, hb1⟩
  have HX := Hid.mk hx
  clear hx
  go_wp2_with fail
  refine (number_any sb w1 (by unfold maxLen; omega)).mono ?_
  rintro e w2 ⟨rfl, hb2⟩
  go_wp2_with fail
  refine (rowed_any w2).mono ?_
  rintro e w3 ⟨rfl, hb3⟩
  have hbel3 := bl2 (bl2 hb1 hb2) hb3
  clear hb1 hb2 hb3
  by_cases hx0 : x = 0
  focus
    obtain ⟨e1, e2, e3⟩ := HX.out hx0
    subst hx0
    rw [e1, e2]
    rw [← e3]
    clear HX e1 e2 e3
    go_wp2_with fail
  rotate_left
  focus
    have hx1 : (x == 0) = false := by simpa using hx0
    clear HX
    go_wp2_with fail
  all_goals
    refine (of_all a len cap l w3 (isBytes_below HR.out hbel3)).mono ?_
    rintro e w4 ⟨sc, y, q, rfl, hck, h8, hy, hb4⟩
    have HY := Hid.mk hy
    have HCK := Hid.mk hck
    have H8 := Hid.mk h8
    have hbel4 := bl2 hbel3 hb4
    clear hy hck h8 hb4 hbel3
    go_wp2_with fail
    refine (bytes_ok sc w4 HCK.out q H8.out).mono ?_
    rintro e w5 ⟨v, rfl, hown, hb5⟩
    obtain ⟨a', c', rfl, hhas⟩ := hasBytes_own hown
    have HH := Hid.mk hhas
    have hbel5 := bl2 hbel4 hb5
    clear hown hhas hb5 hbel4
    by_cases hy0 : y = 0
    · obtain ⟨e1, e2⟩ := HY.out hy0
      subst hy0
      subst e2
      rw [e1] at HH
      clear HY H8 HCK e1
      go_wp2_with fail
      refine (equalB_true w5 a' a q c' cap l (Nat.le_trans HR.out.2.1 HR.out.2.2.1) HH.out (isBytes_has (isBytes_below HR.out hbel5))).mono ?_
      rintro e w6 ⟨rfl, hb6⟩
      have hbel6 := bl2 hbel5 hb6
      clear hb6 hbel5 HH
      go_wp2_with fail
      by_cases hc : checkE b.data.toList = 0
      · obtain ⟨h1000, hrow⟩ := small_of_check hc
        have ht1 := turned_ok b w6 hc (tabs_below HT.out hbel6)
        have hc2 : checkE (ByteArray.mk (b.data.toList.map oth).toArray).data.toList = 0 := by
          rw [mk_list]; exact checkE_row (oth_row _) (by simpa using h1000)
        have ht2 := fun W hW => turned_ok ⟨(b.data.toList.map oth).toArray⟩ W hc2 hW
        rw [mk_list, oth_twice _ hrow] at ht2
        have hr1 := fun W => run_ok ⟨(b.data.toList.map oth).toArray⟩ W hc2
        rw [mk_list, mk_size, List.length_map, runF_oth _ hrow _ (Nat.le_refl _)] at hr1
        have hr2 := fun W => run_ok b W hc
        have hbs : b.data.toList.length = b.size := by simp
        rw [hbs] at hr1
        have hbb : (ByteArray.mk b.data.toList.toArray) = b := by simp
        rw [hbb] at ht2
        have H2 := Hid.mk ht2
        have H3 := Hid.mk hr1
        have H4 := Hid.mk hr2
        clear ht2 hr1 hr2 hc2 hc hrow hbs hbb
        generalize ByteArray.mk (b.data.toList.map oth).toArray = bt at *
        generalize (runF b.data.toList b.size).1 = rr at *
        refine ht1.mono ?_
        rintro e w7 ⟨rfl, hb7⟩
        have hbel7 := bl2 hbel6 hb7
        clear hb7 hbel6 ht1
        go_wp2_with fail
        refine (H2.out w7 (tabs_below HT.out hbel7)).mono ?_
        rintro e w8 ⟨rfl, hb8⟩
        have hbel8 := bl2 hbel7 hb8
        clear hb8 hbel7 H2
        go_wp2_with fail
        refine (H3.out w8).mono ?_
        rintro e w9 ⟨rfl, hb9⟩
        have hbel9 := bl2 hbel8 hb9
        clear hb9 hbel8 H3
        go_wp2_with fail
        refine (H4.out w9).mono ?_
        rintro e w10 ⟨rfl, hb10⟩
        have hbel10 := bl2 hbel9 hb10
        clear hb10 hbel9 H4
        go_wp2_with fail
        go_ret
        exact ⟨rfl, hbel10⟩
      · refine (turned_bad b w6 HB.out hc).mono ?_
        rintro e w7 ⟨rfl, hb7⟩
        have hc' : (checkE b.data.toList == 0) = false := by simpa using hc
        go_wp2_with fail
        go_ret
        exact ⟨rfl, bl2 hbel6 hb7⟩
    · have hy1 : (y == 0) = false := by simpa using hy0
      obtain ⟨w6, hw6⟩ : ∃ w6, w6 = w5 := ⟨_, rfl⟩
      have hbel6 : Below w.heap.size w w6 := hw6 ▸ hbel5
      rw [← hw6]
      clear HY H8 HCK HH hbel5 hw6
      go_wp2_with fail
      by_cases hc : checkE b.data.toList = 0
      · obtain ⟨h1000, hrow⟩ := small_of_check hc
        have ht1 := turned_ok b w6 hc (tabs_below HT.out hbel6)
        have hc2 : checkE (ByteArray.mk (b.data.toList.map oth).toArray).data.toList = 0 := by
          rw [mk_list]; exact checkE_row (oth_row _) (by simpa using h1000)
        have ht2 := fun W hW => turned_ok ⟨(b.data.toList.map oth).toArray⟩ W hc2 hW
        rw [mk_list, oth_twice _ hrow] at ht2
        have hr1 := fun W => run_ok ⟨(b.data.toList.map oth).toArray⟩ W hc2
        rw [mk_list, mk_size, List.length_map, runF_oth _ hrow _ (Nat.le_refl _)] at hr1
        have hr2 := fun W => run_ok b W hc
        have hbs : b.data.toList.length = b.size := by simp
        rw [hbs] at hr1
        have hbb : (ByteArray.mk b.data.toList.toArray) = b := by simp
        rw [hbb] at ht2
        have H2 := Hid.mk ht2
        have H3 := Hid.mk hr1
        have H4 := Hid.mk hr2
        clear ht2 hr1 hr2 hc2 hc hrow hbs hbb
        generalize ByteArray.mk (b.data.toList.map oth).toArray = bt at *
        generalize (runF b.data.toList b.size).1 = rr at *
        refine ht1.mono ?_
        rintro e w7 ⟨rfl, hb7⟩
        have hbel7 := bl2 hbel6 hb7
        clear hb7 hbel6 ht1
        go_wp2_with fail
        refine (H2.out w7 (tabs_below HT.out hbel7)).mono ?_
        rintro e w8 ⟨rfl, hb8⟩
        have hbel8 := bl2 hbel7 hb8
        clear hb8 hbel7 H2
        go_wp2_with fail
        refine (H3.out w8).mono ?_
        rintro e w9 ⟨rfl, hb9⟩
        have hbel9 := bl2 hbel8 hb9
        clear hb9 hbel8 H3
        go_wp2_with fail
        refine (H4.out w9).mono ?_
        rintro e w10 ⟨rfl, hb10⟩
        have hbel10 := bl2 hbel9 hb10
        clear hb10 hbel9 H4
        go_wp2_with fail
        go_ret
        exact ⟨rfl, hbel10⟩
      · refine (turned_bad b w6 HB.out hc).mono ?_
        rintro e w7 ⟨rfl, hb7⟩
        have hc' : (checkE b.data.toList == 0) = false := by simpa using hc
        go_wp2_with fail
        go_ret
        exact ⟨rfl, bl2 hbel6 hb7⟩
end Bw
end Go.Proofs.YtcoemhndpmdccaaDoor
