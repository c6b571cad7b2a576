/- What slices.Concat answers of two lists of filters: the walk. -/
import Derived.Test.YtfmjhgggoklaoaaDoorFilConcat
namespace Go.Proofs.YtfmjhgggoklaoaaDoor
open Go.ChangeShapes Go.WideShapes Go.ChangeAt Go.RowKit
namespace Bw
/-- the two lists, as they lie -/
structure TwoAt (w : World) (g : Nat) (a : Option Addr) (na ca : Nat) (b : Option Addr) (nb cb : Nat) : Prop where
  c0 : w.cell? ⟨g, 0, none⟩ = some (.slice a na ca)
  c1 : w.cell? ⟨g, 1, none⟩ = some (.slice b nb cb)
theorem TwoAt.kept {w w' : World} {g : Nat} {a : Option Addr} {na ca : Nat} {b : Option Addr} {nb cb : Nat} (h : TwoAt w g a na ca b nb cb) (hb : Below w.heap.size w w') : TwoAt w' g a na ca b nb cb := ⟨cell_kept hb h.c0, cell_kept hb h.c1⟩
theorem below_row {w0 w w' : World} {G : Nat} (h : Below w0.heap.size w0 w) (hg : w.grownBy w' (some G)) (hG : w0.heap.size ≤ G := by exact Nat.le_refl _) : Below w0.heap.size w0 w' :=
  Below.grown h hg h.size (fun q hq => by cases hq; exact hG)
set_option maxHeartbeats 8000000 in
set_option maxRecDepth 100000 in
theorem concat_some (g : Nat) (a : Option Addr) (na ca : Nat) (la : List Fl) (b : Option Addr) (nb cb : Nat) (lb : List Fl) (w : World) (hT : TwoAt w g a na ca b nb cb) (hF : IsFils w a na ca la) (hFb : IsFils w b nb cb lb) (h48 : (na + nb) * 24 ≤ 281474976710656) (h0 : 0 < na + nb) :
    Calls Tryd.prog 23 #[.slice (some ⟨g, 0, none⟩) 2 2] w fun e w' => ∃ x cap, e = .returned (.slice x (na + nb) cap) ∧ IsFils w' x (na + nb) cap (la ++ lb) ∧ Below w.heap.size w w' := by
  have HG := Hid.mk (grow_pos (na + nb) w h0 h48)
  rw [show (((na + nb : Nat)) : Int) = (na : Int) + (nb : Int) by omega] at HG
  have HT := Hid.mk hT
  have HF := Hid.mk hF
  have HFb := Hid.mk hFb
  have hna : (na : Int) ≤ 281474976710656 := by omega
  have hnb : (nb : Int) ≤ 281474976710656 := by omega
  clear hT hF hFb
  go_enter Tryd.func23, Tryd.ntmps23
  go_wp2_with fail
  go_loopw [3, 11] (fun s i wr => wr = w ∧ ((i = .int .i64 0 ∧ s = .int .i64 0) ∨ (i = .int .i64 1 ∧ s = .int .i64 (na : Int)) ∨ (i = .int .i64 2 ∧ s = .int .i64 ((na : Int) + (nb : Int))))) (fun _ i _ => 2 - (intOf i).toNat)
  case atStart => exact ⟨rfl, .inl ⟨rfl, rfl⟩⟩
  case round =>
    obtain ⟨hwr, ⟨rfl, rfl⟩ | ⟨rfl, rfl⟩ | ⟨rfl, rfl⟩⟩ := hrel
    · subst hwr
      obtain ⟨t0, t1⟩ := HT.out
      go_wp2_with fail
      go_roundw
      case rel => exact ⟨trivial, .inr (.inl ⟨rfl, by simp⟩)⟩
      case measure => simp [intOf]
    · subst hwr
      obtain ⟨t0, t1⟩ := HT.out
      go_wp2_with fail
      go_roundw
      case rel => exact ⟨trivial, .inr (.inr ⟨rfl, rfl⟩)⟩
      case measure => simp [intOf]
    · subst hwr
      go_wp2_with fail
      refine HG.out.mono ?_
      rintro e w1 ⟨C, cur, rfl, hh, hcs, hnC, hC, hb1⟩
      have HR1 : Hid (RoomAt w1 wr.heap.size C 0 (flC [])) := Hid.mk ⟨cur, hh, hcs, Nat.zero_le _, by simp [flC], by simp [flC]⟩
      have HB1 := Hid.mk hb1
      clear hh hcs hb1
      go_wp2_with fail
      obtain ⟨wz, hwz⟩ : ∃ wz, wz = wr := ⟨_, rfl⟩
      rw [← hwz] at HF HFb HT HR1 HB1 ⊢
      have HWZ := Hid.mk hwz
      clear hwz HG
      go_loopw [6, 27] (fun v i wr => Hid (Below wz.heap.size wz wr) ∧ ((i = .int .i64 0 ∧ v = .slice (some ⟨wz.heap.size, 0, none⟩) 0 C ∧ Hid (RoomAt wr wz.heap.size C 0 (flC []))) ∨ (i = .int .i64 1 ∧ v = .slice (some ⟨wz.heap.size, 0, none⟩) na C ∧ Hid (RoomAt wr wz.heap.size C na (flC la))) ∨ (i = .int .i64 2 ∧ v = .slice (some ⟨wz.heap.size, 0, none⟩) (na + nb) C ∧ Hid (RoomAt wr wz.heap.size C (na + nb) (flC (la ++ lb)))))) (fun _ i _ => 2 - (intOf i).toNat)
      case atStart => exact ⟨HB1, .inl ⟨rfl, rfl, HR1⟩⟩
      case round =>
        obtain ⟨HB, ⟨rfl, rfl, HR⟩ | ⟨rfl, rfl, HR⟩ | ⟨rfl, rfl, HR⟩⟩ := hrel
        · obtain ⟨t0, t1⟩ := HT.out.kept HB.out
          obtain ⟨w5, hr5, hR5, hg5⟩ := room_append HR.out (HF.out.kept HB.out) (by omega) 22
          rw [show flC [] ++ flC la = flC la by simp [flC], Nat.zero_add] at hR5
          rw [Nat.zero_add] at hr5
          have hB5 := below_row HB.out hg5
          have HAP := Hid.mk hr5
          have HR5 := Hid.mk hR5
          have HB5 := Hid.mk hB5
          clear hr5 hR5 hg5 hB5
          go_wp2_with (at_builtin; refine Lib.wpList_append_run _ rfl _ _ _ _ rfl _ _ rfl rfl _ _ HAP.out ?_)
          go_roundw
          case rel => exact ⟨HB5, .inr (.inl ⟨rfl, rfl, HR5⟩)⟩
          case measure => simp [intOf]
        · obtain ⟨t0, t1⟩ := HT.out.kept HB.out
          obtain ⟨w5, hr5, hR5, hg5⟩ := room_append HR.out (HFb.out.kept HB.out) (by omega) 22
          rw [show flC la ++ flC lb = flC (la ++ lb) by simp [flC]] at hR5
          have hB5 := below_row HB.out hg5
          have HAP := Hid.mk hr5
          have HR5 := Hid.mk hR5
          have HB5 := Hid.mk hB5
          clear hr5 hR5 hg5 hB5
          go_wp2_with (at_builtin; refine Lib.wpList_append_run _ rfl _ _ _ _ rfl _ _ rfl rfl _ _ HAP.out ?_)
          go_roundw
          case rel => exact ⟨HB5, .inr (.inr ⟨rfl, rfl, HR5⟩)⟩
          case measure => simp [intOf]
        · have HFF := Hid.mk (fils_room HR.out hC)
          go_wp2_with fail
          go_ret
          exact ⟨_, _, rfl, HFF.out, by rw [← HWZ.out]; exact HB.out⟩
set_option maxHeartbeats 8000000 in
set_option maxRecDepth 100000 in
theorem concat_none (g : Nat) (a : Option Addr) (ca : Nat) (la : List Fl) (b : Option Addr) (cb : Nat) (lb : List Fl) (w : World) (hT : TwoAt w g a 0 ca b 0 cb) (hF : IsFils w a 0 ca la) (hFb : IsFils w b 0 cb lb) :
    Calls Tryd.prog 23 #[.slice (some ⟨g, 0, none⟩) 2 2] w fun e w' => ∃ x cap, e = .returned (.slice x 0 cap) ∧ IsFils w' x 0 cap (la ++ lb) ∧ Below w.heap.size w w' := by
  have HG := Hid.mk (grow_zero w)
  have HT := Hid.mk hT
  have HF := Hid.mk hF
  have HFb := Hid.mk hFb
  have HFN : Hid (∀ W : World, IsFils W none 0 0 (la ++ lb)) := Hid.mk (fun W => by
    have h1 : la = [] := by have := hF.len; simpa using this
    have h2 : lb = [] := by have := hFb.len; simpa using this
    subst h1
    subst h2
    exact ⟨rfl, Nat.le_refl _, Nat.zero_le _, fun _ => rfl, fun x hx => by cases hx⟩)
  clear hT hF hFb
  go_enter Tryd.func23, Tryd.ntmps23
  go_wp2_with fail
  go_loopw [3, 11] (fun s i wr => wr = w ∧ ((i = .int .i64 0 ∧ s = .int .i64 0) ∨ (i = .int .i64 1 ∧ s = .int .i64 0) ∨ (i = .int .i64 2 ∧ s = .int .i64 (0)))) (fun _ i _ => 2 - (intOf i).toNat)
  case atStart => exact ⟨rfl, .inl ⟨rfl, rfl⟩⟩
  case round =>
    obtain ⟨hwr, ⟨rfl, rfl⟩ | ⟨rfl, rfl⟩ | ⟨rfl, rfl⟩⟩ := hrel
    · subst hwr
      obtain ⟨t0, t1⟩ := HT.out
      go_wp2_with fail
      go_roundw
      case rel => exact ⟨trivial, .inr (.inl ⟨rfl, by simp⟩)⟩
      case measure => simp [intOf]
    · subst hwr
      obtain ⟨t0, t1⟩ := HT.out
      go_wp2_with fail
      go_roundw
      case rel => exact ⟨trivial, .inr (.inr ⟨rfl, rfl⟩)⟩
      case measure => simp [intOf]
    · subst hwr
      go_wp2_with fail
      refine HG.out.mono ?_
      rintro e w1 ⟨rfl, hw1⟩
      subst hw1
      go_wp2_with fail
      obtain ⟨wz, hwz⟩ : ∃ wz, wz = w1 := ⟨_, rfl⟩
      rw [← hwz] at HF HFb HT ⊢
      have HWZ := Hid.mk hwz
      clear hwz HG
      go_loopw [6, 27] (fun v i wr => wr = wz ∧ v = .slice none 0 0 ∧ (i = .int .i64 0 ∨ i = .int .i64 1 ∨ i = .int .i64 2)) (fun _ i _ => 2 - (intOf i).toNat)
      case atStart => exact ⟨rfl, rfl, .inl rfl⟩
      case round =>
        obtain ⟨hwr, rfl, rfl | rfl | rfl⟩ := hrel
        · subst hwr
          obtain ⟨t0, t1⟩ := HT.out
          have HAP := Hid.mk (none_append HF.out 22)
          go_wp2_with (at_builtin; refine Lib.wpList_append_run _ rfl _ _ _ _ rfl _ _ rfl rfl _ _ HAP.out ?_)
          go_roundw
          case rel => exact ⟨trivial, rfl, .inr (.inl rfl)⟩
          case measure => simp [intOf]
        · subst hwr
          obtain ⟨t0, t1⟩ := HT.out
          have HAP := Hid.mk (none_append HFb.out 22)
          go_wp2_with (at_builtin; refine Lib.wpList_append_run _ rfl _ _ _ _ rfl _ _ rfl rfl _ _ HAP.out ?_)
          go_roundw
          case rel => exact ⟨trivial, rfl, .inr (.inr rfl)⟩
          case measure => simp [intOf]
        · subst hwr
          go_wp2_with fail
          go_ret
          exact ⟨_, _, rfl, HFN.out _, by rw [← HWZ.out]; exact Below.refl _ _⟩
theorem concat_any (g : Nat) (a : Option Addr) (na ca : Nat) (la : List Fl) (b : Option Addr) (nb cb : Nat) (lb : List Fl) (w : World) (hT : TwoAt w g a na ca b nb cb) (hF : IsFils w a na ca la) (hFb : IsFils w b nb cb lb) (h48 : (na + nb) * 24 ≤ 281474976710656) :
    Calls Tryd.prog 23 #[.slice (some ⟨g, 0, none⟩) 2 2] w fun e w' => ∃ x cap, e = .returned (.slice x (na + nb) cap) ∧ IsFils w' x (na + nb) cap (la ++ lb) ∧ Below w.heap.size w w' := by
  rcases Nat.eq_zero_or_pos (na + nb) with h | h
  · obtain rfl : na = 0 := by omega
    obtain rfl : nb = 0 := by omega
    exact concat_none g a ca la b cb lb w hT hF hFb
  · exact concat_some g a na ca la b nb cb lb w hT hF hFb h48 h
end Bw
end Go.Proofs.YtfmjhgggoklaoaaDoor
