/- Joined out of our texts: StrIdx, OnlyStr, AppTwo, WSend1, WSend2, WFirst, WireCnt, FrHead, ShelfCnt. -/
import Derived.Test.YtdhmjbnpdmneiadDoorLawWireFirstPAB
import Derived.WalkKit
import Derived.OwnWalk
import Derived.OneCell
import Derived.Laws.AppendOwn
import Derived.Test.YtdhmjbnpdmneiadDoorLawWireFirstPAA
import Derived.BigQuiet
import Derived.Lib.QuietBelow
import Derived.Shelf.Strings.Count
import Derived.Test.YtdhmjbnpdmneiadDoorProg
/- What slices.Index and slices.Contains answer of texts. -/
namespace Go.Proofs.YtdhmjbnpdmneiadDoor
open Go.ChangeShapes Go.WideShapes Go.ChangeAt Go.RowKit
namespace Bw
open Bm
set_option maxHeartbeats 1000000 in
theorem indexS (g off n c : Nat) (xs : List (List UInt8)) (v : (List UInt8)) (w : World) (hn : xs.length = n) (hm : n ≤ 1000) (hx : StrsAt w g off xs) :
    Calls Tryd.prog 12 #[.slice (some ⟨g, off, none⟩) n c, .string ⟨v.toArray⟩] w fun e w' => e = .returned (.int .i64 (idxG xs v)) ∧ w' = w := by
  have HX := Hid.mk hx
  have HN := Hid.mk hn
  obtain ⟨V, hV⟩ : ∃ V : ByteArray, V = ⟨v.toArray⟩ := ⟨_, rfl⟩
  rw [← hV]
  have HVV := Hid.mk hV
  clear hx hn hV
  go_enter Tryd.func12, Tryd.ntmps12
  go_wp2_with fail
  go_loopw [8] (fun i wr => ∃ j : Nat, j ≤ n ∧ i = .int .i64 j ∧ Hid (v ∉ xs.take j) ∧ wr = w) (fun i _ => n - (intOf i).toNat)
  case atStart => exact ⟨0, Nat.zero_le _, rfl, Hid.mk (by simp), rfl⟩
  case round =>
    obtain ⟨j, hj, rfl, HV, hwr⟩ := hrel
    subst hwr
    by_cases hlt : j < n
    · have hc := HX.out j (by rw [HN.out]; exact hlt)
      have hlt' : (j : Int) < (n : Int) := by omega
      have hjl : j < xs.length := by rw [HN.out]; exact hlt
      by_cases he : v = xs.getD j []
      · have hb : (V.toList == (ByteArray.mk (xs.getD j []).toArray).toList) = true := by rw [HVV.out, txt_eq, ← he]; simp
        have HRES := Hid.mk (idxG_hit xs v [] j hjl HV.out he)
        generalize ByteArray.mk (xs.getD j []).toArray = y at *
        clear hjl he
        go_wp2_with fail
        go_ret
        exact ⟨by rw [HRES.out]; rfl, rfl⟩
      · have hb : (V.toList == (ByteArray.mk (xs.getD j []).toArray).toList) = false := by rw [HVV.out, txt_eq]; simpa using he
        have HNX := Hid.mk (idxG_next xs v [] j hjl HV.out he)
        generalize ByteArray.mk (xs.getD j []).toArray = y at *
        clear hjl he
        go_wp2_with fail
        go_roundw
        case rel => exact ⟨j + 1, by omega, by go_num, HNX, by first | rfl | trivial⟩
        case measure => simp [intOf]; omega
    · have e : j = n := by omega
      subst e
      have HRES := Hid.mk (idxG_none xs v (by
        have := HV.out
        rwa [← HN.out, List.take_length] at this))
      go_wp2_with fail
      go_ret
      exact ⟨by rw [HRES.out]; rfl, rfl⟩
set_option maxHeartbeats 1000000 in
theorem containsS (g off n c : Nat) (xs : List (List UInt8)) (v : (List UInt8)) (w : World) (hn : xs.length = n) (hm : n ≤ 1000) (hx : StrsAt w g off xs) :
    Calls Tryd.prog 55 #[.slice (some ⟨g, off, none⟩) n c, .string ⟨v.toArray⟩] w fun e w' => e = .returned (.bool (decide (v ∈ xs))) ∧ w' = w := by
  have h1 := indexS g off n c xs v w hn hm hx
  have he : decide (0 ≤ idxG xs v) = decide (v ∈ xs) := by rw [decide_eq_decide]; exact idxG_pos xs v
  have HE := Hid.mk he
  generalize idxG xs v = q at *
  clear he hn hx
  go_enter Tryd.func55, Tryd.ntmps55
  go_wp2_with fail
  refine h1.mono ?_
  rintro e w1 ⟨rfl, hw1⟩
  subst hw1
  go_wp2_with fail
  go_ret
  exact ⟨by rw [← HE.out]; rfl, rfl⟩
end Bw
end Go.Proofs.YtdhmjbnpdmneiadDoor

/- Where something stands in a list, if it stands there once: wire.only of texts. -/
namespace Go.Proofs.YtdhmjbnpdmneiadDoor
open Go.ChangeShapes Go.WideShapes Go.ChangeAt Go.RowKit
namespace Bw
open Bm

theorem sizeOfT (W : World) : (sizeOf 9).run Tryd.prog W = .ok 1 W := by
  have h : (Tryd.prog.info? 9).map (·.size) = some 1 := by kernel_rfl
  cases hi : Tryd.prog.info? 9 with
  | none => rw [hi] at h; cases h
  | some i =>
    rw [hi] at h
    have h1 : i.size = 1 := by simpa using h
    simp [sizeOf, typeInfo, hi, h1]
theorem sliceT (g n c l : Nat) (xs : List (List UInt8)) (w : World) (hn : xs.length = n) (hl : l ≤ n) (hnc : n ≤ c) (hx : StrsAt w g 0 xs) :
    ∃ off, (∀ W, (Instr.slice 27 (.slice (some ⟨g, 0, none⟩) n c) (some (.int .i64 (l : Int))) none none).run Tryd.prog W = .ok (.slice (some ⟨g, off, none⟩) (n - l) (c - l)) W) ∧ StrsAt w g off (xs.drop l) := by
  have key : ∀ W, (Instr.slice 27 (.slice (some ⟨g, 0, none⟩) n c) (some (.int .i64 (l : Int))) none none).run Tryd.prog W = .ok (.slice (some ⟨g, if c = l then 0 else l, none⟩) (n - l) (c - l)) W := by
    intro W
    rw [run_slice_l W 27 (some ⟨g, 0, none⟩) n c (by kernel_rfl) .i64 (l : Int) (by omega) (by omega)]
    have e : Tryd.prog.elem 27 = 9 := by kernel_rfl
    rw [e, sizeOfT W]
    simp only [Result.andThen_ok, sliced, Int.toNat_natCast, Nat.mul_one, Option.map_some]
    by_cases h : c = l
    · rw [if_pos h, if_pos h]
    · rw [if_neg h, if_neg h]; simp [Addr.add]; exact fun h => h.symm
  refine ⟨_, key, ?_⟩
  intro i hi
  rw [List.length_drop] at hi
  by_cases h : c = l
  · omega
  · rw [if_neg h]
    have := hx (l + i) (by omega)
    rw [Nat.zero_add] at this
    rw [this]
    simp [List.getD]
set_option maxHeartbeats 2000000 in
set_option maxRecDepth 100000 in
theorem onlyT_any (g n c : Nat) (xs : List (List UInt8)) (v : (List UInt8)) (w : World) (hn : xs.length = n) (hm : n ≤ 6) (hnc : n ≤ c) (hx : StrsAt w g 0 xs) :
    Calls Tryd.prog 27 #[.slice (some ⟨g, 0, none⟩) n c, .string ⟨v.toArray⟩] w fun e w' => e = .returned (.tuple #[.int .i64 (onlyN xs v), .int .i64 (onlyE xs v)]) ∧ w' = w := by
  have HI := Hid.mk (indexS g 0 n c xs v w hn (by omega) hx)
  have hge := idxG_ge xs v
  rw [hn] at hge
  by_cases h0 : idxG xs v < 0
  · have e1 : onlyE xs v = 8 := by unfold onlyE; rw [if_pos h0]
    have e2 : onlyN xs v = 0 := by unfold onlyN; rw [e1]; rfl
    rw [e1, e2]
    generalize idxG xs v = q at *
    clear e1 e2 hx hn hge
    go_enter Tryd.func27, Tryd.ntmps27
    go_wp2_with fail
    refine HI.out.mono ?_
    rintro e w1 ⟨rfl, hw⟩
    subst hw
    go_wp2_with fail
    go_ret2
    exact ⟨rfl, rfl⟩
  · obtain ⟨l, hl⟩ : ∃ l : Nat, idxG xs v = l := ⟨(idxG xs v).toNat, by omega⟩
    obtain ⟨off, hsl, hx2⟩ := sliceT g n c (l + 1) xs w hn (by omega) hnc hx
    have hc := containsS g off (n - (l + 1)) (c - (l + 1)) (xs.drop (l + 1)) v w (by rw [List.length_drop, hn]) (by omega) hx2
    have e1 : onlyE xs v = if v ∈ xs.drop (l + 1) then 9 else 0 := by
      unfold onlyE
      rw [if_neg h0, hl, Int.toNat_natCast]
      try (by_cases h : v ∈ xs.drop (l + 1) <;> simp [h])
    have e2 : onlyN xs v = if v ∈ xs.drop (l + 1) then 0 else (l : Int) := by
      unfold onlyN
      rw [e1, hl]
      by_cases h : v ∈ xs.drop (l + 1)
      · rw [if_pos h, if_pos h, if_neg (by omega)]
      · rw [if_neg h, if_neg h, if_pos rfl]
    rw [hl] at HI hge
    rw [e1, e2]
    have hsl' : ∀ W, (Instr.slice 27 (.slice (some ⟨g, 0, none⟩) n c) (some (.int .i64 ((l : Int) + 1))) none none).run Tryd.prog W = .ok (.slice (some ⟨g, off, none⟩) (n - (l + 1)) (c - (l + 1))) W := by
      intro W
      have := hsl W
      rw [show ((l + 1 : Nat) : Int) = (l : Int) + 1 by omega] at this
      exact this
    generalize n - (l + 1) = n2 at *
    generalize c - (l + 1) = c2 at *
    clear hsl hl h0 hx hx2 e1 e2
    by_cases h : v ∈ xs.drop (l + 1)
    · rw [if_pos h, if_pos h]
      have hd : decide (v ∈ xs.drop (l + 1)) = true := by simpa using h
      rw [hd] at hc
      have HC := Hid.mk hc
      clear hc h hd hn
      go_enter Tryd.func27, Tryd.ntmps27
      go_wp2_with fail
      refine HI.out.mono ?_
      rintro e w1 ⟨rfl, hw⟩
      subst hw
      go_wp2_with fail
      refine HC.out.mono ?_
      rintro e w2 ⟨rfl, hw2⟩
      subst hw2
      go_wp2_with fail
      go_ret2
      exact ⟨rfl, rfl⟩
    · rw [if_neg h, if_neg h]
      have hd : decide (v ∈ xs.drop (l + 1)) = false := by simpa using h
      rw [hd] at hc
      have HC := Hid.mk hc
      clear hc h hd hn
      go_enter Tryd.func27, Tryd.ntmps27
      go_wp2_with fail
      refine HI.out.mono ?_
      rintro e w1 ⟨rfl, hw⟩
      subst hw
      go_wp2_with fail
      refine HC.out.mono ?_
      rintro e w2 ⟨rfl, hw2⟩
      subst hw2
      go_wp2_with fail
      go_ret2
      exact ⟨rfl, rfl⟩
end Bw
end Go.Proofs.YtdhmjbnpdmneiadDoor

/- An append to one row beside another one: the row keeps its block, or moves into a new one; of no program. -/
namespace Go.Proofs.YtdhmjbnpdmneiadDoor
open Go.RowKit
namespace Bw
theorem run_append_two {P : Program} (w : World) (base : Nat) (t ty e : TypeId) (i : TypeInfo) (z : Value) (size bytes : Nat) (ht : P.underlying t = some (.slice e)) (hi : P.info? e = some i) (hz : i.zero = some z)
    (hsize : i.size = size) (hby : i.bytes = bytes) (hzs : z.cells.size = size) (hsz : 0 < size)
    (v : Value) (n : Nat) (xs : List Value) (hown : w.ownsRow base e size v n xs)
    (a : Addr) (m c : Nat) (news : List Value) (hl : news.length = m * size) (hnews : ∀ j u, news[j]? = some u → w.cell? (a.add j) = some u) (h1 : ∀ u ∈ news, u.oneCell' = true)
    (h0 : 0 < m) (h63 : n + m ≤ maxLen) (hbytes : (n + m) * bytes ≤ 140737488355328) (hbase : base ≤ w.heap.size) :
    ∃ v' w', (Builtin.append_ #[t, t] ty #[v, .slice (some a) m c]).run P w = .ok v' w' ∧ w'.ownsRow base e size v' (n + m) (xs ++ news) ∧ w.grownBy w' v.ownBlock ∧ (v'.ownBlock = v.ownBlock ∨ v'.ownBlock = some w.heap.size) := by
  obtain ⟨v', w', hr, h2, h3, -⟩ := run_append_own (P := P) w base t ty e i z size bytes ht hi hz hsize hby hzs hsz v n xs hown a m c news hl hnews h1 h63 hbytes hbase
  refine ⟨v', w', hr, h2, h3, ?_⟩
  subst hsize
  subst hby
  have hsmall : n + m ≤ 9223372036854775807 := by simp only [maxLen] at h63; omega
  rcases hown.2 with ⟨rfl, rfl⟩ | ⟨g, cap, cur, rfl, hbg, hg, hnc, hcm, hcs, htake⟩
  · have hq := run_append_nil (P := P) w t ty e i z ht hi hz a m c news hl hnews h0 (by omega) (by have hb := hbytes; simp only [Nat.zero_add] at hb; omega)
    rw [hq] at hr
    injection hr with e1 e2
    right; rw [← e1]; rfl
  · by_cases hroom : n + m ≤ cap
    · have hfit : n * i.size + news.length ≤ cur.size := by rw [hl, hcs, ← Nat.add_mul]; exact Nat.mul_le_mul_right _ hroom
      have hq := run_append_room (P := P) w t ty e i ht hi g n cap cur hg a m c news hl hnews h1 hroom hfit
      rw [hq] at hr
      injection hr with e1 e2
      left; rw [← e1]; rfl
    · have holds : ∀ j u, xs[j]? = some u → w.cell? ((⟨g, 0, none⟩ : Addr).add j) = some u := hown.cells (g := g) rfl
      have hq := run_append_grow (P := P) w t ty e i z ht hi hz ⟨g, 0, none⟩ n cap xs hown.1 holds a m c news hl hnews (by omega) (by omega) (growslice_fits (by omega) hbytes)
      rw [hq] at hr
      injection hr with e1 e2
      right; rw [← e1]; rfl
theorem wpList_append_two {P : Program} {w : World} {ops : Array Oper} {rest : List Oper} {o : Oper} {a : Act} {Q : Exit → Act → World → Prop} (hgd : o.guard = none) (s x : Operand) (t : TypeId)
    (ho : o.op = .call { callee := .builtin .append, args := #[s, x], argTypes := #[t, t] })
    (base : Nat) (e : TypeId) (i : TypeInfo) (z : Value) (size bytes : Nat) (ht : P.underlying t = some (.slice e)) (hi : P.info? e = some i) (hz : i.zero = some z)
    (hsize : i.size = size) (hby : i.bytes = bytes) (hzs : z.cells.size = size) (hsz : 0 < size)
    (v : Value) (n : Nat) (xs : List Value) (hs : a.eval s = v) (hown : w.ownsRow base e size v n xs)
    (ad : Addr) (m c : Nat) (news : List Value) (hx : a.eval x = .slice (some ad) m c) (hl : news.length = m * size) (hnews : ∀ j u, news[j]? = some u → w.cell? (ad.add j) = some u) (h1 : ∀ u ∈ news, u.oneCell' = true)
    (h0 : 0 < m) (h63 : n + m ≤ maxLen) (hbytes : (n + m) * bytes ≤ 140737488355328) (hbase : base ≤ w.heap.size)
    (h : ∀ v' w', w'.ownsRow base e size v' (n + m) (xs ++ news) → w.grownBy w' v.ownBlock → (v'.ownBlock = v.ownBlock ∨ v'.ownBlock = some w.heap.size) → wpList P ops Q rest (a.put o.dst v') w') : wpList P ops Q (o :: rest) a w := by
  refine wpList_plain hgd fun K hK => ?_
  obtain ⟨v', w', hr, h2, h3, h4⟩ := run_append_two (P := P) w base t o.type e i z size bytes ht hi hz hsize hby hzs hsz v n xs hown ad m c news hl hnews h1 h0 h63 hbytes hbase
  unfold Oper.wp
  simp [execOp, ho, resolve, invoke, builtin, hs, hx, hr, Result.andThen]
  exact hK _ _ (h v' w' h2 h3 h4)
/-- another row stays as it was -/
theorem owns_beside {w w' : World} {base : Nat} {e : TypeId} {size : Nat} {v : Value} {n : Nat} {xs : List Value} {row : Option Nat} (h : w.ownsRow base e size v n xs) (hg : w.grownBy w' row) (hne : ∀ k, v.ownBlock = some k → some k ≠ row) : w'.ownsRow base e size v n xs := by
  obtain ⟨h1, h2⟩ := h
  refine ⟨h1, ?_⟩
  rcases h2 with h2 | ⟨g, cap, cur, hv, hgb, hh, r⟩
  · exact Or.inl h2
  · subst hv
    refine Or.inr ⟨g, cap, cur, rfl, hgb, ?_, r⟩
    rw [hg.block g (lt_of_block hh) (hne g rfl)]
    exact hh
/-- two rows lie apart -/
def ApartV (v u : Value) : Prop := ∀ k, v.ownBlock = some k → u.ownBlock ≠ some k
theorem ApartV.symm {v u : Value} (h : ApartV v u) : ApartV u v := fun k hk hv => h k hv hk
theorem apart_next {w : World} {base : Nat} {e : TypeId} {size : Nat} {v v' u : Value} {n : Nat} {xs : List Value} (h : ApartV v u) (hu : w.ownsRow base e size u n xs) (hb : v'.ownBlock = v.ownBlock ∨ v'.ownBlock = some w.heap.size) : ApartV v' u := by
  intro k hk hx
  rcases hb with hb | hb
  · exact h k (by rw [← hb]; exact hk) hx
  · rw [hb] at hk
    have := (World.ownsRow.lt hu k hx).2
    simp at hk
    omega
end Bw
end Go.Proofs.YtdhmjbnpdmneiadDoor

/- Who sends a 0 and who a 1 at a place: wire.senders. -/
namespace Go.Proofs.YtdhmjbnpdmneiadDoor
open Go.ChangeShapes Go.WideShapes Go.ChangeAt Go.RowKit
namespace Bw
open Bm

theorem info_int : (Tryd.prog.info? 3).map (fun i => (i.zero, i.size, i.bytes)) = some (some (.int .i64 0), 1, 8) := by kernel_rfl
/-- numbers as cells -/
def intC (l : List Int) : List Value := l.map fun n => .int .i64 n
theorem intC_append (a b : List Int) : intC (a ++ b) = intC a ++ intC b := by simp [intC]
theorem intC_length (l : List Int) : (intC l).length = l.length := by simp [intC]
theorem zerK_yes {rows : List (List UInt8)} {lost : List Int} {n k : Nat} (h1 : sends rows lost n k = true) (h2 : isZ rows n k = true) : zerK rows lost n (k + 1) = zerK rows lost n k ++ [(k : Int)] ∧ oneK rows lost n (k + 1) = oneK rows lost n k := by
  rw [zerK, oneK, h1, h2]; exact ⟨rfl, rfl⟩
theorem oneK_yes {rows : List (List UInt8)} {lost : List Int} {n k : Nat} (h1 : sends rows lost n k = true) (h2 : isZ rows n k = false) : oneK rows lost n (k + 1) = oneK rows lost n k ++ [(k : Int)] ∧ zerK rows lost n (k + 1) = zerK rows lost n k := by
  rw [zerK, oneK, h1, h2]; exact ⟨rfl, rfl⟩
theorem sends_no {rows : List (List UInt8)} {lost : List Int} {n k : Nat} (h1 : sends rows lost n k = false) : zerK rows lost n (k + 1) = zerK rows lost n k ∧ oneK rows lost n (k + 1) = oneK rows lost n k := by
  rw [zerK, oneK, h1]; exact ⟨rfl, rfl⟩

set_option maxHeartbeats 4000000 in
set_option maxRecDepth 100000 in
theorem senders_any (gr cr gl cl n at_ : Nat) (rows : List (List UInt8)) (lost : List Int) (w : World) (hr : rows.length = n) (hl : lost.length = n) (hn : n ≤ 6) (hlen : ∀ r ∈ rows, r.length ≤ 1000) (hX : StrsAt w gr 0 rows) (hY : NumsAt w gl 0 lost) :
    Calls Tryd.prog 59 #[.slice (some ⟨gr, 0, none⟩) n cr, .slice (some ⟨gl, 0, none⟩) n cl, .int .i64 at_] w fun e w' => ∃ zv ov, e = .returned (.tuple #[zv, ov]) ∧
      w'.ownsRow w.heap.size 3 1 zv (zerK rows lost at_ n).length (intC (zerK rows lost at_ n)) ∧ w'.ownsRow w.heap.size 3 1 ov (oneK rows lost at_ n).length (intC (oneK rows lost at_ n)) ∧ Below w.heap.size w w' := by
  obtain ⟨i0, hi, hz0, hz1, hz2⟩ := info_parts info_int
  have HX := Hid.mk hX
  have HY := Hid.mk hY
  have HR := Hid.mk hr
  have HL := Hid.mk hl
  have HLN := Hid.mk hlen
  clear hX hY hr hl hlen
  go_enter Tryd.func59, Tryd.ntmps59
  go_wp2_with fail
  go_loopw [6, 7, 11] (fun z o i wr => ∃ k : Nat, k ≤ n ∧ i = .int .i64 k ∧ Hid (wr.ownsRow w.heap.size 3 1 z (zerK rows lost at_ k).length (intC (zerK rows lost at_ k))) ∧ Hid (wr.ownsRow w.heap.size 3 1 o (oneK rows lost at_ k).length (intC (oneK rows lost at_ k))) ∧ Hid (ApartV z o) ∧ Hid (Below w.heap.size w wr)) (fun _ _ i _ => n - (intOf i).toNat)
  case atStart => exact ⟨0, Nat.zero_le _, rfl, Hid.mk (by simpa [zerK, intC] using World.ownsRow_nil _ _ _ _), Hid.mk (by simpa [oneK, intC] using World.ownsRow_nil _ _ _ _), Hid.mk (fun k hk => by cases hk), Hid.mk (Below.refl _ _)⟩
  case round =>
    obtain ⟨k, hk, rfl, HZ, HO, HA, HB⟩ := hrel
    by_cases hlt : k < n
    · have hlt' : (k : Int) < (n : Int) := by omega
      have c1 := cell_kept HB.out (HY.out k (by rw [HL.out]; exact hlt))
      have c2 := cell_kept HB.out (HX.out k (by rw [HR.out]; exact hlt))
      simp only [Nat.zero_add] at c1 c2
      obtain ⟨R, hR⟩ : ∃ R : ByteArray, R = ⟨(rows.getD k []).toArray⟩ := ⟨_, rfl⟩
      have hRl : R.data.toList = rows.getD k [] := by rw [hR]
      have hRs : R.size = (rows.getD k []).length := ba_size hRl
      have hR1000 : R.size ≤ 1000 := by rw [hRs]; exact HLN.out _ (row_mem rows k (by rw [HR.out]; exact hlt))
      rw [← hR] at c2
      obtain ⟨x, hx⟩ : ∃ x, x = lost.getD k 0 := ⟨_, rfl⟩
      rw [← hx] at c1
      have HRl := Hid.mk hRl
      have HRs := Hid.mk hRs
      have HXx := Hid.mk hx
      clear hR hRl hRs hx
      by_cases h1 : x = -1
      · by_cases h2 : at_ < R.size
        · have hs : sends rows lost at_ k = true := by
            unfold sends
            rw [← HXx.out, h1, ← HRs.out]
            simpa using h2
          have hat2 := at_getD R at_ h2
          rw [HRl.out] at hat2
          have hb1 : (x != -1) = false := by rw [h1]; rfl
          by_cases h3 : (rows.getD k []).getD at_ 0 = 48
          · have hzz : isZ rows at_ k = true := by unfold isZ; rw [h3]; rfl
            have hb2 : ((R[at_].toNat : Int) == 48) = true := by rw [hat2, h3]; rfl
            have HS := Hid.mk (zerK_yes hs hzz)
            have hsz := zerK_len rows lost at_ k
            clear h3 hzz hs hat2 h1
            go_wp2_with (at_builtin; refine wpList_append_two rfl (.tmp 41) (.tmp 43) 36 rfl w.heap.size 3 i0 (.int .i64 0) 1 8 Tryd.underlying36 hi hz0 hz1 hz2 rfl (by decide) _ _ _ rfl (HZ.out.alloc _) ⟨wr.heap.size, 0, none⟩ 1 1 [Value.int .i64 k] rfl rfl (by intro q u hq; match q, hq with | 0, hq => (simp at hq; subst hq; simp [Addr.add])) (by intro u hu; simp at hu; subst hu; rfl) (by decide) (by unfold maxLen; omega) (by omega) (by have := HB.out.size; simp; omega) ?_; intro v1 w3 hown1 hgrow1 hblk1)
            have hB3 : Below w.heap.size w w3 := Below.grown (HB.out.alloc HB.out.size _) hgrow1 (by have := HB.out.size; simp; omega) (fun q hq => (HZ.out.lt q hq).1)
            have hoth := owns_beside (HO.out.alloc _) hgrow1 (fun q hq e => HA.out q e.symm hq)
            have hown2 := hown1
            rw [show intC (zerK rows lost at_ k) ++ [Value.int .i64 k] = intC (zerK rows lost at_ (k + 1)) by rw [HS.out.1, intC_append]; rfl, show (zerK rows lost at_ k).length + 1 = (zerK rows lost at_ (k + 1)).length by rw [HS.out.1]; simp] at hown2
            rw [← HS.out.2] at hoth
            have HAp := Hid.mk (apart_next (v := u6) HA.out (HO.out.alloc _) hblk1)
            clear hown1 hgrow1 hblk1
            go_roundw
            case rel => exact ⟨k + 1, by omega, by go_num, Hid.mk hown2, Hid.mk hoth, HAp, Hid.mk hB3⟩
            case measure => simp [intOf]; omega
          · have hzz : isZ rows at_ k = false := by unfold isZ; simpa using h3
            have hb2 : ((R[at_].toNat : Int) == 48) = false := by
              rw [hat2, beq_eq_false_iff_ne]
              intro hx
              apply h3
              have h48 : ((rows.getD k []).getD at_ 0).toNat = 48 := by omega
              exact UInt8.toNat_inj.1 h48
            have HS := Hid.mk (oneK_yes hs hzz)
            have hsz := oneK_len rows lost at_ k
            clear h3 hzz hs hat2 h1
            go_wp2_with (at_builtin; refine wpList_append_two rfl (.tmp 14) (.tmp 16) 36 rfl w.heap.size 3 i0 (.int .i64 0) 1 8 Tryd.underlying36 hi hz0 hz1 hz2 rfl (by decide) _ _ _ rfl (HO.out.alloc _) ⟨wr.heap.size, 0, none⟩ 1 1 [Value.int .i64 k] rfl rfl (by intro q u hq; match q, hq with | 0, hq => (simp at hq; subst hq; simp [Addr.add])) (by intro u hu; simp at hu; subst hu; rfl) (by decide) (by unfold maxLen; omega) (by omega) (by have := HB.out.size; simp; omega) ?_; intro v1 w3 hown1 hgrow1 hblk1)
            have hB3 : Below w.heap.size w w3 := Below.grown (HB.out.alloc HB.out.size _) hgrow1 (by have := HB.out.size; simp; omega) (fun q hq => (HO.out.lt q hq).1)
            have hoth := owns_beside (HZ.out.alloc _) hgrow1 (fun q hq e => HA.out.symm q e.symm hq)
            have hown2 := hown1
            rw [show intC (oneK rows lost at_ k) ++ [Value.int .i64 k] = intC (oneK rows lost at_ (k + 1)) by rw [HS.out.1, intC_append]; rfl, show (oneK rows lost at_ k).length + 1 = (oneK rows lost at_ (k + 1)).length by rw [HS.out.1]; simp] at hown2
            rw [← HS.out.2] at hoth
            have HAp := Hid.mk ((apart_next (v := u7) HA.out.symm (HZ.out.alloc _) hblk1).symm)
            clear hown1 hgrow1 hblk1
            go_roundw
            case rel => exact ⟨k + 1, by omega, by go_num, Hid.mk hoth, Hid.mk hown2, HAp, Hid.mk hB3⟩
            case measure => simp [intOf]; omega
        · have hs : sends rows lost at_ k = false := by
            unfold sends
            rw [← HRs.out]
            simp
            intro _
            omega
          have HS := Hid.mk (sends_no hs)
          have hb1 : (x != -1) = false := by rw [h1]; rfl
          have h2' : (R.size : Int) ≤ (at_ : Int) := by omega
          clear hs h1
          go_wp2_with fail
          go_roundw
          case rel => exact ⟨k + 1, by omega, by go_num, by rw [HS.out.1]; exact HZ, by rw [HS.out.2]; exact HO, HA, HB⟩
          case measure => simp [intOf]; omega
      · have hs : sends rows lost at_ k = false := by
          unfold sends
          rw [← HXx.out]
          simp
          intro h; exact absurd h h1
        have HS := Hid.mk (sends_no hs)
        have hb1 : (x != -1) = true := by simpa using h1
        clear hs h1
        go_wp2_with fail
        go_roundw
        case rel => exact ⟨k + 1, by omega, by go_num, by rw [HS.out.1]; exact HZ, by rw [HS.out.2]; exact HO, HA, HB⟩
        case measure => simp [intOf]; omega
    · have e : k = n := by omega
      subst e
      go_wp2_with fail
      go_ret2
      exact ⟨_, _, rfl, HZ.out, HO.out, HB.out⟩
end Bw
end Go.Proofs.YtdhmjbnpdmneiadDoor

/- What is on the bus, and who gives way where: wire.contest. -/
namespace Go.Proofs.YtdhmjbnpdmneiadDoor
open Go.ChangeShapes Go.WideShapes Go.ChangeAt Go.RowKit
namespace Bw
open Bm

theorem owns_slice {w : World} {base : Nat} {e : TypeId} {size : Nat} {v : Value} {n : Nat} {xs : List Value} (h : w.ownsRow base e size v n xs) : ∃ a cap, v = .slice a n cap := by
  rcases h.2 with ⟨rfl, rfl⟩ | ⟨g, cap, cur, rfl, -⟩
  · exact ⟨_, _, rfl⟩
  · exact ⟨_, _, rfl⟩
theorem owns_some {w : World} {base : Nat} {e : TypeId} {size : Nat} {v : Value} {n : Nat} {xs : List Value} (h : w.ownsRow base e size v n xs) (h0 : 0 < n) : ∃ g cap, v = .slice (some ⟨g, 0, none⟩) n cap ∧ base ≤ g ∧ g < w.heap.size := by
  rcases h.2 with ⟨rfl, rfl⟩ | ⟨g, cap, cur, rfl, hb, hg, -⟩
  · omega
  · exact ⟨_, _, rfl, hb, lt_of_block hg⟩
theorem nums_of {w : World} {base g n cap : Nat} {l : List Int} (h : w.ownsRow base 3 1 (.slice (some ⟨g, 0, none⟩) n cap) n (intC l)) : NumsAt w g 0 l := by
  intro i hi
  have hl : (intC l).length = n * 1 := h.1
  rw [intC_length] at hl
  rw [Nat.zero_add, h.cellAt i (by omega)]
  simp [intC, List.getD, hi]
theorem intC_set (l : List Int) (i : Nat) (x : Int) : (intC l).set i (.int .i64 x) = intC (l.set i x) := by
  unfold intC; rw [List.map_set]
/-- so many set to -1 -/
def fillK (n k : Nat) : List Int := List.replicate k (-1) ++ List.replicate (n - k) 0
theorem fillK_len (n k : Nat) (h : k ≤ n) : (fillK n k).length = n := by simp [fillK]; omega
theorem fillK_set (n k : Nat) (h : k < n) : (fillK n k).set k (-1) = fillK n (k + 1) := by
  unfold fillK
  rw [List.set_append_right _ _ (by simp)]
  simp only [List.length_replicate, Nat.sub_self]
  obtain ⟨m, hm⟩ : ∃ m, n - k = m + 1 := ⟨n - k - 1, by omega⟩
  rw [hm, show n - (k + 1) = m by omega, List.replicate_succ, List.set_cons_zero, List.replicate_succ', List.append_assoc]
  rfl

set_option maxHeartbeats 8000000 in
set_option maxRecDepth 100000 in
theorem contest_any (gr cr n : Nat) (rows : List (List UInt8)) (best : List UInt8) (w : World) (hr : rows.length = n) (h1 : 1 ≤ n) (hn : n ≤ 6) (hlen : ∀ r ∈ rows, r.length ≤ 900) (hrow : ∀ r ∈ rows, rowB r = true) (hA : Apart rows) (hL : Least rows best) (hX : StrsAt w gr 0 rows) :
    Calls Tryd.prog 32 #[.slice (some ⟨gr, 0, none⟩) n cr] w fun e w' => e = .returned (.tuple #[.string ⟨best.toArray⟩, .slice (some ⟨w.heap.size, 0, none⟩) n n]) ∧
      w'.ownsRow w.heap.size 3 1 (.slice (some ⟨w.heap.size, 0, none⟩) n n) n (intC (rows.map fun r => dif r best)) ∧ Below w.heap.size w w' := by
  obtain ⟨i0, hi, hz0, hz1, hz2⟩ := info_parts info_int
  obtain ⟨j0, hj0, hy0, hy1, hy2⟩ := info_parts info_u8
  have HS := Hid.mk (fun W (lost : List Int) (at_ : Nat) (hl : lost.length = n) (hW : StrsAt W gr 0 rows) (hY : NumsAt W w.heap.size 0 lost) => senders_any gr cr w.heap.size n n at_ rows lost W hr hl hn (fun r hr => Nat.le_trans (hlen r hr) (by omega)) hW hY)
  have HX := Hid.mk hX
  have HR := Hid.mk hr
  have HLN := Hid.mk hlen
  have HRW := Hid.mk hrow
  have HAp := Hid.mk hA
  have HL := Hid.mk hL
  have hbl : best.length ≤ 900 := hlen best hL.1
  clear hX hr hlen hrow hA hL
  go_enter Tryd.func32, Tryd.ntmps32
  go_wp2_with (at_make; refine wpList_make_full _ rfl (.tmp 13) (.tmp 13) 36 rfl w.heap.size 3 i0 (.int .i64 0) 1 Tryd.underlying36 hi hz0 hz1 .i64 .i64 _ _ n rfl rfl (by omega) (by omega) (by rw [hz2]; omega) (by unfold maxLen; omega) (Nat.le_refl _) ?_; intro w2 hown hgrow)
  have hown0 : w2.ownsRow w.heap.size 3 1 (.slice (some ⟨w.heap.size, 0, none⟩) n n) n (intC (fillK n 0)) := by
    have e : intC (fillK n 0) = (madeCells (Value.int .i64 0).cells (n * 1)).toList := by
      rw [Nat.mul_one]
      show intC (fillK n 0) = (madeCells #[.int .i64 0] n).toList
      rw [toList_madeCells_one]
      simp [fillK, intC]
    rw [e]; exact hown
  have hb2 : Below w.heap.size w w2 := Below.grown (Below.refl _ _) hgrow (Nat.le_refl _) (fun q hq => by cases hq)
  clear hown hgrow
  go_loopw [17] (fun i wr => ∃ k : Nat, k ≤ n ∧ i = .int .i64 k ∧ wr.ownsRow w.heap.size 3 1 (.slice (some ⟨w.heap.size, 0, none⟩) n n) n (intC (fillK n k)) ∧ Below w.heap.size w wr) (fun i _ => n - (intOf i).toNat)
  case atStart => exact ⟨0, Nat.zero_le _, rfl, hown0, hb2⟩
  case round =>
    clear hown0 hb2
    obtain ⟨k, hk, rfl, hown, hbel⟩ := hrel
    by_cases hlt : k < n
    · have hlt' : (k : Int) < (n : Int) := by omega
      have hc3 := hown.cellAt k (by omega)
      have hf3 := hown.frozenAt k
      rw [show (intC (fillK n k))[k]? = some ((intC (fillK n k))[k]'(by rw [intC_length, fillK_len n k hk]; exact hlt)) from List.getElem?_eq_getElem _] at hc3
      generalize (intC (fillK n k))[k]'(by rw [intC_length, fillK_len n k hk]; exact hlt) = c3 at hc3
      have hst := hown.stored k (.int .i64 (-1))
      rw [intC_set, fillK_set n k hlt] at hst
      have HO4 := Hid.mk hst.1
      have HB4 := Hid.mk (hbel.grown hst.2 hbel.size (fun q hq => by cases hq; exact Nat.le_refl _))
      clear hown hst
      go_wp2_with fail
      go_roundw
      case rel => exact ⟨k + 1, by omega, by go_num, HO4.out, HB4.out⟩
      case measure => simp [intOf]; omega
    · have e : k = n := by omega
      subst e
      rw [show fillK k k = lostL rows best 0 by rw [lost_start, HR.out]; simp [fillK]] at hown
      have HL0 := Hid.mk hown
      have HB0 := Hid.mk hbel
      clear hown hbel
      go_wp2_with fail
      go_loopw [6, 24] (fun r i wr => ∃ j : Nat, j ≤ best.length ∧ i = .int .i64 j ∧ Hid (wr.ownsRow w.heap.size 5 1 r j (cellsOf (best.take j))) ∧ Hid (wr.ownsRow w.heap.size 3 1 (.slice (some ⟨w.heap.size, 0, none⟩) k k) k (intC (lostL rows best j))) ∧ Hid (ApartV r (.slice (some ⟨w.heap.size, 0, none⟩) k k)) ∧ Hid (Below w.heap.size w wr)) (fun _ i _ => 1000 - (intOf i).toNat)
      case atStart => exact ⟨0, Nat.zero_le _, rfl, Hid.mk (by simpa [cellsOf] using World.ownsRow_nil _ _ _ _), HL0, Hid.mk (fun q hq => by cases hq), HB0⟩
      case round =>
        obtain ⟨j, hj, rfl, HBus, HLo, HAp2, HBel⟩ := hrel
        have hj1000 : (j : Int) < 1000 := by omega
        have hc0 := HS.out wr (lostL rows best j) j (by rw [lostL_len, HR.out]) (fun i hi => cell_kept HBel.out (HX.out i hi)) (nums_of HLo.out)
        by_cases hlt : j < best.length
        · have hbt : best.getD j 0 = 49 ∨ best.getD j 0 = 48 := by
            have hb : bit (best.getD j 0) = true := by
              rw [List.getD, List.getElem?_eq_getElem hlt, Option.getD_some]
              exact List.all_eq_true.1 (HRW.out best HL.out.1) _ (List.getElem_mem hlt)
            rcases (bit_iff _).1 hb with h | h
            · right; exact UInt8.toNat_inj.1 (show (best.getD j 0).toNat = 48 by omega)
            · left; exact UInt8.toNat_inj.1 (show (best.getD j 0).toNat = 49 by omega)
          rcases hbt with hbt | hbt
          · have HBit := Hid.mk hbt
            obtain ⟨g1, g2, g3⟩ := one_step HAp.out HRW.out HL.out hlt hbt
            rw [HR.out] at g1 g2
            rw [g1] at hc0
            have ho1 : 0 < (oneK rows (lostL rows best j) j k).length := List.length_pos_iff.2 g2
            have ho2 := oneK_len rows (lostL rows best j) j k
            have HC := Hid.mk hc0
            have HG3 := Hid.mk g3
            generalize oneK rows (lostL rows best j) j k = ones at *
            clear hc0 g1 g2 g3 hbt
            go_wp2_with fail
            refine HC.out.mono ?_
            rintro e w1 ⟨zv, ov, rfl, hz, ho, hb1⟩
            obtain ⟨az, cz, rfl⟩ := owns_slice hz
            obtain ⟨ao, co, rfl⟩ := owns_slice ho
            have HBus1 := Hid.mk (ownsRow_below HBus.out hb1)
            have HLo1 := Hid.mk (ownsRow_below HLo.out hb1)
            have HBel1 := Hid.mk (bl2 HBel.out hb1)
            generalize ones.length = lo at *
            have hq : ((lo : Int) == 0) = false := by rw [beq_eq_false_iff_ne]; omega
            clear hz ho hb1 HBus HLo HBel HC
            go_wp2_with (at_builtin; refine wpList_append_two rfl (.tmp 43) (.tmp 44) 28 rfl w.heap.size 5 j0 (.int .u8 0) 1 1 Tryd.underlying28 hj0 hy0 hy1 hy2 rfl (by decide) _ _ _ rfl (HBus1.out.alloc _) ⟨w1.heap.size, 0, none⟩ 1 1 [Value.int .u8 49] rfl rfl (by intro q u hq; match q, hq with | 0, hq => (simp at hq; subst hq; simp [Addr.add])) (by intro u hu; simp at hu; subst hu; rfl) (by decide) (by unfold maxLen; omega) (by omega) (by have := HBel1.out.size; simp; omega) ?_; intro v3 w3 hown3 hgrow3 hblk3)
            have hB3 : Below w.heap.size w w3 := Below.grown (HBel1.out.alloc HBel1.out.size _) hgrow3 (by have := HBel1.out.size; simp; omega) (fun q hq => (HBus1.out.lt q hq).1)
            have hL3 := owns_beside (HLo1.out.alloc _) hgrow3 (fun q hq e => HAp2.out q e.symm hq)
            have hA3 := apart_next (v := u6) HAp2.out (HLo1.out.alloc _) hblk3
            rw [show cellsOf (best.take j) ++ [Value.int .u8 49] = cellsOf (best.take (j + 1)) by rw [take_snocL best j hlt, cellsOf_append, HBit.out]; rfl] at hown3
            rw [← HG3.out] at hL3
            clear hgrow3 hblk3
            go_roundw
            case rel => exact ⟨j + 1, by omega, by go_num, Hid.mk hown3, Hid.mk hL3, Hid.mk hA3, Hid.mk hB3⟩
            case measure => simp [intOf]; omega
          · have HBit := Hid.mk hbt
            obtain ⟨g1, g2⟩ := zero_step HAp.out HL.out.1 hlt hbt
            rw [HR.out] at g1 g2
            have hz1 : 0 < (zerK rows (lostL rows best j) j k).length := List.length_pos_iff.2 g1
            have hz3 := zerK_len rows (lostL rows best j) j k
            have ho2 := oneK_len rows (lostL rows best j) j k
            have hin : ∀ x ∈ oneK rows (lostL rows best j) j k, ∃ i : Nat, i < k ∧ x = i := by
              intro x hx
              obtain ⟨i, h1, h2, _⟩ := (oneK_mem rows _ _ x k).1 hx
              exact ⟨i, h1, h2⟩
            have HC := Hid.mk hc0
            have HG2 := Hid.mk g2
            have HIN := Hid.mk hin
            generalize oneK rows (lostL rows best j) j k = ones at *
            generalize (zerK rows (lostL rows best j) j k).length = lz at *
            clear hc0 g1 g2 hbt hin
            go_wp2_with fail
            refine HC.out.mono ?_
            rintro e w1 ⟨zv, ov, rfl, hz, ho, hb1⟩
            obtain ⟨az, cz, rfl⟩ := owns_slice hz
            obtain ⟨ao, co, rfl⟩ := owns_slice ho
            have HBus1 := Hid.mk (ownsRow_below HBus.out hb1)
            have HLo1 := Hid.mk (ownsRow_below HLo.out hb1)
            have HBel1 := Hid.mk (bl2 HBel.out hb1)
            have HOn := Hid.mk ho
            have HGL := Hid.mk (show w.heap.size < wr.heap.size from (HLo.out.lt w.heap.size rfl).2)
            have HBL := Hid.mk (fun q hq => (HBus.out.lt q hq).2)
            obtain ⟨B0, hB0⟩ : ∃ B0 : Nat, B0 = wr.heap.size := ⟨_, rfl⟩
            rw [← hB0] at HOn HGL HBL
            clear hB0
            obtain ⟨lo, hlo⟩ : ∃ lo, lo = ones.length := ⟨_, rfl⟩
            rw [← hlo] at HOn ho2 HG2 ⊢
            have HLO := Hid.mk hlo
            have hq : (((lz : Int) + (lo : Int)) == 0) = false := by rw [beq_eq_false_iff_ne]; omega
            have hq2 : ((lz : Int) == 0) = false := by rw [beq_eq_false_iff_ne]; omega
            clear hlo hz ho hb1 HBus HLo HBel HC
            go_wp2_with (at_builtin; refine wpList_append_two rfl (.tmp 46) (.tmp 47) 28 rfl w.heap.size 5 j0 (.int .u8 0) 1 1 Tryd.underlying28 hj0 hy0 hy1 hy2 rfl (by decide) _ _ _ rfl (HBus1.out.alloc _) ⟨w1.heap.size, 0, none⟩ 1 1 [Value.int .u8 48] rfl rfl (by intro q u hq; match q, hq with | 0, hq => (simp at hq; subst hq; simp [Addr.add])) (by intro u hu; simp at hu; subst hu; rfl) (by decide) (by unfold maxLen; omega) (by omega) (by have := HBel1.out.size; simp; omega) ?_; intro v3 w3 hown3 hgrow3 hblk3)
            have hB3 : Below w.heap.size w w3 := Below.grown (HBel1.out.alloc HBel1.out.size _) hgrow3 (by have := HBel1.out.size; simp; omega) (fun q hq => (HBus1.out.lt q hq).1)
            have hL3 := owns_beside (HLo1.out.alloc _) hgrow3 (fun q hq e => HAp2.out q e.symm hq)
            have hA3 := apart_next (v := u6) HAp2.out (HLo1.out.alloc _) hblk3
            rw [show cellsOf (best.take j) ++ [Value.int .u8 48] = cellsOf (best.take (j + 1)) by rw [take_snocL best j hlt, cellsOf_append, HBit.out]; rfl] at hown3
            have HOn3 := Hid.mk (owns_beside (HOn.out.alloc _) hgrow3 (fun q hq e => by
              have h1 := HBL.out q e.symm
              have h2 := (HOn.out.lt q hq).1
              omega))
            have HB3 := Hid.mk hB3
            have HL3 := Hid.mk hL3
            have HA3 := Hid.mk hA3
            have HU3 := Hid.mk hown3
            clear hgrow3 hblk3 hB3 hL3 hA3 hown3 HOn HLo1 HBus1 HBel1
            go_loopw [51] (fun i wr3 => ∃ q : Nat, q ≤ lo ∧ i = .int .i64 q ∧ Hid (wr3.ownsRow w.heap.size 3 1 (.slice (some ⟨w.heap.size, 0, none⟩) k k) k (intC (giveK (lostL rows best j) j ones q))) ∧ Hid (wr3.ownsRow w.heap.size 5 1 v3 (j + 1) (cellsOf (best.take (j + 1)))) ∧ Hid (wr3.ownsRow B0 3 1 (.slice ao lo co) lo (intC ones)) ∧ Hid (Below w.heap.size w wr3)) (fun i _ => lo - (intOf i).toNat)
            case atStart => exact ⟨0, Nat.zero_le _, rfl, HL3, HU3, HOn3, HB3⟩
            case round =>
              clear HL3 HU3 HOn3 HB3
              obtain ⟨q, hqk, rfl, HLq, HUq, HOq, HBq⟩ := hrel
              by_cases hqlt : q < lo
              · obtain ⟨go, cgo, heq, hgo1, hgo2⟩ := owns_some HOq.out (by omega)
                simp only [Value.slice.injEq] at heq
                obtain ⟨rfl, -, rfl⟩ := heq
                have hqlt' : (q : Int) < (lo : Int) := by omega
                have hql : q < ones.length := by rw [← HLO.out]; exact hqlt
                obtain ⟨i, hik, hix⟩ := HIN.out ones[q] (List.getElem_mem hql)
                have c1 : wr.cell? ⟨go, q, none⟩ = some (.int .i64 i) := by
                  rw [HOq.out.cellAt q (by omega)]
                  simp [intC, hql, hix]
                have hLl : (intC (giveK (lostL rows best j) j ones q)).length = k := by rw [intC_length, giveK_len, lostL_len, HR.out]
                have hc3 := HLq.out.cellAt i (by omega)
                have hf3 := HLq.out.frozenAt i
                rw [List.getElem?_eq_getElem (by rw [hLl]; exact hik)] at hc3
                generalize (intC (giveK (lostL rows best j) j ones q))[i]'(by rw [hLl]; exact hik) = c3 at hc3
                have hst := HLq.out.stored i (.int .i64 (j : Int))
                rw [intC_set] at hst
                have hgs : (giveK (lostL rows best j) j ones q).set i (j : Int) = giveK (lostL rows best j) j ones (q + 1) := by
                  rw [giveK, show ones.getD q 0 = ones[q] by simp [List.getD, hql], hix, Int.toNat_natCast]
                rw [hgs] at hst
                have HLn := Hid.mk hst.1
                have HBn := Hid.mk (HBq.out.grown hst.2 HBq.out.size (fun q hq => by cases hq; exact Nat.le_refl _))
                have HUn := Hid.mk (owns_beside HUq.out hst.2 (fun x hx e => by
                  have e2 : x = w.heap.size := by simpa using e
                  subst e2
                  exact HA3.out _ hx rfl))
                have HOn := Hid.mk (owns_beside HOq.out hst.2 (fun x hx e => by
                  have e2 : x = w.heap.size := by simpa using e
                  have h1 := (HOq.out.lt x hx).1
                  have h2 := HGL.out
                  omega))
                have hik' : (i : Int) < (k : Int) := by omega
                clear hst hgs hLl hix hql HLq HUq HOq HBq hgo1 hgo2
                go_wp2_with fail
                go_roundw
                case rel => exact ⟨q + 1, by omega, by go_num, HLn, HUn, HOn, HBn⟩
                case measure => simp [intOf]; omega
              · have e : q = lo := by omega
                subst e
                have hLe := HLq.out
                rw [HG2.out] at hLe
                have HLe := Hid.mk hLe
                clear hLe
                go_wp2_with fail
                go_roundw
                case rel => exact ⟨j + 1, by omega, by go_num, HUq, HLe, HA3, HBq⟩
                case measure => simp [intOf]; omega
        · have e2 : j = best.length := by omega
          subst e2
          obtain ⟨g1, g2⟩ := none_left HAp.out HL.out.1
          rw [HR.out] at g1 g2
          rw [g1, g2] at hc0
          have HC := Hid.mk hc0
          clear hc0 g1 g2
          go_wp2_with fail
          refine HC.out.mono ?_
          rintro e w1 ⟨zv, ov, rfl, hz, ho, hb1⟩
          obtain ⟨az, cz, rfl⟩ := owns_slice hz
          obtain ⟨ao, co, rfl⟩ := owns_slice ho
          have HBus1 := Hid.mk (ownsRow_below HBus.out hb1)
          have HLo1 := Hid.mk (ownsRow_below HLo.out hb1)
          have HBel1 := Hid.mk (bl2 HBel.out hb1)
          have hcv := convert_own HBus1.out
          rw [List.take_length] at hcv
          have hfin := HLo1.out
          rw [lost_end] at hfin
          have HFin := Hid.mk hfin
          clear hfin hz ho hb1 HBus HLo HBel HC HBus1 HLo1
          go_wp2_with fail
          go_ret2
          exact ⟨rfl, HFin.out, HBel1.out⟩
end Bw
end Go.Proofs.YtdhmjbnpdmneiadDoor

/- What wire.First answers of any frames. -/
namespace Go.Proofs.YtdhmjbnpdmneiadDoor
open Go.ChangeShapes Go.WideShapes Go.ChangeAt Go.RowKit
namespace Bw
open Bm Cm
/-- the names of frames -/
def namesL (l : List FrV) : List (List UInt8) := l.map fun v => nameL v.f
/-- the error that First tells -/
def firstE (l : List FrV) : Int := if 6 < l.length then 2 else if firE (l.map (·.f)) ≠ 0 then firE (l.map (·.f)) else if l.length = 0 then 8 else onlyE (namesL l) (minL (namesL l))
set_option maxHeartbeats 2000000 in
theorem first_many (a : Option Addr) (n cap : Nat) (w : World) (h : 6 < n) :
    Calls Tryd.prog 7 #[.slice a n cap] w fun e w' => e = .returned (.tuple #[.int .i64 0, .int .i64 2]) ∧ w' = w := by
  have h2 : (6 : Int) < (n : Int) := by omega
  go_enter Tryd.func7, Tryd.ntmps7
  go_wp2_with fail
  go_ret2
  exact ⟨rfl, rfl⟩
set_option maxHeartbeats 2000000 in
theorem first_bad (a : Option Addr) (n cap : Nat) (l : List FrV) (w : World) (hS : SizesAt w) (hF : IsFrames w a n cap l) (h6 : n ≤ 6) (hz : firE (l.map (·.f)) ≠ 0) :
    Calls Tryd.prog 7 #[.slice a n cap] w fun e w' => e = .returned (.tuple #[.int .i64 0, .int .i64 (firE (l.map (·.f)))]) ∧ Below w.heap.size w w' := by
  have ha := (eachName_any a n cap l w hS hF h6).mono (fun _ _ h => And.intro (h.1 hz) h.2.2)
  have HE := Hid.mk ha
  have hne : (firE (l.map (·.f)) != 0) = true := by simpa using hz
  have h6' : (n : Int) ≤ 6 := by omega
  generalize firE (l.map (·.f)) = ce at *
  clear ha hS hF hz
  go_enter Tryd.func7, Tryd.ntmps7
  go_wp2_with fail
  refine HE.out.mono ?_
  rintro e w1 ⟨rfl, hb1⟩
  go_wp2_with fail
  go_ret2
  exact ⟨rfl, hb1⟩
set_option maxHeartbeats 2000000 in
theorem first_none (a : Option Addr) (n cap : Nat) (l : List FrV) (w : World) (hS : SizesAt w) (hF : IsFrames w a n cap l) (h0 : n = 0) :
    Calls Tryd.prog 7 #[.slice a n cap] w fun e w' => e = .returned (.tuple #[.int .i64 0, .int .i64 8]) ∧ Below w.heap.size w w' := by
  subst h0
  have hz : firE (l.map (·.f)) = 0 := by
    have : l = [] := List.eq_nil_of_length_eq_zero hF.len
    subst this; rfl
  have ha := (eachName_any a 0 cap l w hS hF (by omega)).mono (fun _ _ h => And.intro (h.2.1 hz) h.2.2)
  have HE := Hid.mk ha
  clear ha hS hF hz
  go_enter Tryd.func7, Tryd.ntmps7
  go_wp2_with fail
  refine HE.out.mono ?_
  rintro e w1 ⟨⟨rv, rfl, hown⟩, hb1⟩
  obtain ⟨ra, rc, rfl⟩ := owns_slice hown
  clear hown
  go_wp2_with fail
  go_ret2
  exact ⟨rfl, hb1⟩
theorem owns_room {w : World} {base : Nat} {e : TypeId} {size : Nat} {v : Value} {n : Nat} {xs : List Value} (h : w.ownsRow base e size v n xs) (h0 : 0 < n) : ∃ g cap, v = .slice (some ⟨g, 0, none⟩) n cap ∧ n ≤ cap := by
  rcases h.2 with ⟨rfl, rfl⟩ | ⟨g, cap, cur, rfl, _, _, hc, -⟩
  · omega
  · exact ⟨_, _, rfl, hc⟩
set_option maxHeartbeats 4000000 in
theorem first_ok (a : Option Addr) (n cap : Nat) (l : List FrV) (w : World) (hS : SizesAt w) (hF : IsFrames w a n cap l) (h0 : 0 < n) (h6 : n ≤ 6) (hz : firE (l.map (·.f)) = 0) :
    Calls Tryd.prog 7 #[.slice a n cap] w fun e w' => e = .returned (.tuple #[.int .i64 (onlyN (namesL l) (minL (namesL l))), .int .i64 (onlyE (namesL l) (minL (namesL l)))]) ∧ Below w.heap.size w w' := by
  have hrl : (namesL l).length = n := by rw [namesL, List.length_map, hF.len]
  have ha := (eachName_any a n cap l w hS hF h6).mono (fun _ _ h => And.intro (h.2.1 hz) h.2.2)
  have hm := fun g c W hX => minS_any g n c (namesL l) W hrl h0 (by omega) hX
  have ho := fun g c W hc hX => onlyT_any g n c (namesL l) (minL (namesL l)) W hrl h6 hc hX
  have HRO := Hid.mk (show strC (l.map fun v => nameL v.f) = strC (namesL l) from rfl)
  generalize onlyN (namesL l) (minL (namesL l)) = oN at *
  generalize onlyE (namesL l) (minL (namesL l)) = oE at *
  generalize ByteArray.mk (minL (namesL l)).toArray = BT at *
  have h0' : ((n : Int) == 0) = false := by rw [beq_eq_false_iff_ne]; omega
  have h6' : (n : Int) ≤ 6 := by omega
  have HE := Hid.mk ha
  have HM := Hid.mk hm
  have HO := Hid.mk ho
  clear ha hm ho hS hF hz hrl
  go_enter Tryd.func7, Tryd.ntmps7
  go_wp2_with fail
  refine HE.out.mono ?_
  rintro e w1 ⟨⟨rv, rfl, hown⟩, hb1⟩
  rw [HRO.out] at hown
  obtain ⟨gr, cr, rfl, hnc⟩ := owns_room hown h0
  have HX := Hid.mk (strs_of hown)
  have HB1 := Hid.mk hb1
  have HNC := Hid.mk hnc
  clear hown hb1 hnc
  go_wp2_with fail
  refine (HM.out _ _ _ HX.out).mono ?_
  rintro e w2 ⟨rfl, hw2⟩
  subst hw2
  go_wp2_with fail
  refine (HO.out _ _ _ HNC.out HX.out).mono ?_
  rintro e w3 ⟨rfl, hw3⟩
  subst hw3
  go_wp2_with fail
  go_ret2
  exact ⟨rfl, HB1.out⟩
/-- First of any frames -/
theorem first_any (a : Option Addr) (n cap : Nat) (l : List FrV) (w : World) (hS : SizesAt w) (hF : IsFrames w a n cap l) :
    Calls Tryd.prog 7 #[.slice a n cap] w fun e w' => e = .returned (.tuple #[.int .i64 (if firstE l = 0 then idxG (namesL l) (minL (namesL l)) else 0), .int .i64 (firstE l)]) ∧ Below w.heap.size w w' := by
  have hl := hF.len
  by_cases h6 : 6 < n
  · have e1 : firstE l = 2 := by unfold firstE; rw [if_pos (by omega)]
    rw [e1]
    refine (first_many a n cap w h6).mono ?_
    rintro e w1 ⟨rfl, rfl⟩
    exact ⟨rfl, Below.refl _ _⟩
  · by_cases hz : firE (l.map (·.f)) = 0
    · by_cases h0 : n = 0
      · have e1 : firstE l = 8 := by unfold firstE; rw [if_neg (by omega), if_neg (fun h => h hz), if_pos (by omega)]
        rw [e1]
        exact first_none a n cap l w hS hF h0
      · have e1 : firstE l = onlyE (namesL l) (minL (namesL l)) := by unfold firstE; rw [if_neg (by omega), if_neg (fun h => h hz), if_neg (by omega)]
        rw [e1]
        exact first_ok a n cap l w hS hF (by omega) (by omega) hz
    · have e1 : firstE l = firE (l.map (·.f)) := by unfold firstE; rw [if_neg (by omega), if_pos hz]
      rw [e1, if_neg hz]
      exact first_bad a n cap l w hS hF (by omega) hz
end Bw
end Go.Proofs.YtdhmjbnpdmneiadDoor

/- How often a row stands in a list; plain facts on lists; of no program. -/
namespace Go.Proofs.YtdhmjbnpdmneiadDoor
namespace Bw
open Bm
theorem beq_rows : (instBEqOfDecidableEq : BEq (List UInt8)) = List.instBEq := by
  have h : ∀ a b : List UInt8, @BEq.beq _ instBEqOfDecidableEq a b = @BEq.beq _ List.instBEq a b := fun a b =>
    Bool.eq_iff_iff.2 ((@beq_iff_eq _ instBEqOfDecidableEq _ a b).trans (@beq_iff_eq _ List.instBEq _ a b).symm)
  exact congrArg BEq.mk (funext fun a => funext fun b => h a b)
theorem onlyE_rows {l : List (List UInt8)} {x : List UInt8} (h : x ∈ l) : onlyE l x = if 1 < l.count x then 9 else 0 := by
  rw [onlyE_mem h, beq_rows]
end Bw
end Go.Proofs.YtdhmjbnpdmneiadDoor

/- What frame.head answers of a right frame. -/
namespace Go.Proofs.YtdhmjbnpdmneiadDoor
open Go.ChangeShapes Go.WideShapes Go.ChangeAt Go.RowKit
namespace Bw
open Bm Cm Go.Sort

theorem sizes_low (n : Nat) (h : n ≤ 8) : n ∈ sizesL ∧ sizesL.idxOf n = n := by
  have : ∀ m : Fin 9, m.val ∈ sizesL ∧ sizesL.idxOf m.val = m.val := by decide +kernel
  exact this ⟨n, by omega⟩
/-- the number that tells the code -/
def sizeI (f : Fr) : Int := if f.re then f.sz else (f.dt.length : Int)
theorem code_idx {f : Fr} (hE : frE f = 0) : idxI sizesI (sizeI f) = (codeN f : Int) ∧ codeN f < 2 ^ 4 := by
  obtain ⟨-, -, e3, e4, e5, e6, e7, e8, e9⟩ := frE_ok hE
  unfold sizeI codeN
  cases hre : f.re
  · exact idx_sizes e9
  · have h := sizes_low f.sz.toNat (by omega)
    have h2 := idx_sizes h.1
    rw [h.2] at h2
    simp only [if_true]
    rw [show ((f.sz.toNat : Nat) : Int) = f.sz by omega] at h2
    exact ⟨by rw [h2.1]; omega, h2.2⟩
theorem FrAt.regrown {w : World} {g : Nat} {id : Int} {lo fa re : Bool} {sz : Int} {a : Option Addr} {len cap : Nat} (h : FrAt w g id lo fa re sz a len cap) (d : Nat) (os : Array Obj) : FrAt (grow (redrawn w d) os) g id lo fa re sz a len cap :=
  ⟨cell_regrown h.c0 d os, cell_regrown h.c1 d os, cell_regrown h.c2 d os, cell_regrown h.c3 d os, cell_regrown h.c4 d os, cell_regrown h.c5 d os⟩

set_option maxHeartbeats 8000000 in
theorem head_any (f : Fr) (a : Option Addr) (len cap : Nat) (w : World) (hS : SizesAt w) (hE : frE f = 0) (hr : IsBytes w a len cap f.dt) :
    Calls Tryd.prog 35 #[frameV f.id f.lo f.fa f.re f.sz a len cap] w fun e w' => e = .returned (.string ⟨(headL f).toArray⟩) ∧ Below w.heap.size w w' := by
  obtain ⟨e1, e2, e3, e4, e5, e6, e7, e8, e9⟩ := frE_ok hE
  have hdl : f.dt.length = len := hr.1
  obtain ⟨hix, hcode⟩ := code_idx hE
  have hB := below_box w f.id f.lo f.fa f.re f.sz a len cap
  have hK := FrAt.box w f.id f.lo f.fa f.re f.sz a len cap
  unfold frameC at hB hK
  have hnm := fun W => name_any f a len cap W e1 e2
  have hfm := fun W => form_any f a len cap W
  unfold frameV at hnm hfm ⊢
  have hco := fun W hW => codeOf_any (sizeI f) W hW
  rw [hix] at hco
  have hro := fun W => row_ok (codeN f) 4 W (by omega) hcode
  have hof := fun W hB => of_any a len cap f.dt W (by omega) hB
  have hNl := mk_list (nameL f)
  have hNs := nameL_len f
  have hMl := mk_list (midL f)
  have hMs := midL_len f
  have hRl := mk_list (bitsHead (codeN f) 4 4)
  have hOl := mk_list (ofL f.dt)
  have hOs : (ofL f.dt).length ≤ 512 := by rw [ofL_length]; omega
  have hfin : headL f = [48] ++ nameL f ++ midL f ++ bitsHead (codeN f) 4 4 ++ ofL f.dt := rfl
  generalize ByteArray.mk (nameL f).toArray = NM at *
  generalize ByteArray.mk (midL f).toArray = MD at *
  generalize ByteArray.mk (bitsHead (codeN f) 4 4).toArray = CD at *
  generalize ByteArray.mk (ofL f.dt).toArray = OF at *
  have z1 : NM.size ≤ 32 := by rw [ba_size hNl, hNs]; split <;> omega
  have z2 : MD.size ≤ 4 := by rw [ba_size hMl]; omega
  have z3 : CD.size ≤ 4 := by rw [ba_size hRl, bitsHead_length]; exact Nat.le_refl _
  have z4 : OF.size ≤ 512 := by rw [ba_size hOl]; exact hOs
  have HS := Hid.mk (hS.kept hB)
  have HBY := Hid.mk (isBytes_below hr hB)
  have HNM := Hid.mk hnm
  have HFM := Hid.mk hfm
  have HCO := Hid.mk hco
  have HRO := Hid.mk hro
  have HOF := Hid.mk hof
  have HK := Hid.mk hK
  have HFIN := Hid.mk hfin
  have HL := Hid.mk (And.intro hNl (And.intro hMl (And.intro hRl hOl)))
  have hlen : (len : Int) ≤ 64 := by omega
  have hsi : sizeI f = if f.re then f.sz else (len : Int) := by unfold sizeI; rw [hdl]
  have HSI := Hid.mk hsi
  clear hS hr hnm hfm hco hro hof hNl hNs hMl hMs hRl hOl hOs hfin hK e1 e2 e3 e4 e5 e6 e7 e8 e9 hE hix hcode hdl hsi
  generalize codeN f = cn at *
  generalize sizeI f = si at *
  cases hre : f.re
  all_goals
    rw [hre] at HNM HFM HK hB HSI HS HBY
    have hsi := HSI.out
    simp only [Bool.false_eq_true, if_false, if_true] at hsi
    subst hsi
    go_enter Tryd.func35, Tryd.ntmps35
    go_wp2_with fail
    refine (HCO.out _ HS.out).mono ?_
    rintro e w1 ⟨rfl, hw1⟩
    subst hw1
    go_wp2_with fail
    refine (HRO.out _).mono ?_
    rintro e w2 ⟨rfl, hb2⟩
    have hbel2 := bl2 hB hb2
    have HBY2 := Hid.mk (isBytes_below HBY.out hb2)
    have HK2 := Hid.mk (HK.out.kept hb2)
    have k5 := HK2.out.c5
    clear hB hb2 HBY HK HCO HRO HS
    go_wp2_with fail
    refine (HOF.out _ HBY2.out).mono ?_
    rintro e w3 ⟨rfl, hb3⟩
    have hbel3 := bl2 hbel2 hb3
    have HK3 := Hid.mk (HK2.out.kept hb3)
    clear hbel2 hb3 HBY2 HK2 k5 HOF
    have r0 := fun d os => (HK3.out.regrown d os).c0
    have r1 := fun d os => (HK3.out.regrown d os).c1
    have r2 := fun d os => (HK3.out.regrown d os).c2
    have r3 := fun d os => (HK3.out.regrown d os).c3
    have r4 := fun d os => (HK3.out.regrown d os).c4
    have r5 := fun d os => (HK3.out.regrown d os).c5
    go_wp2_with fail
    refine wp_region_quiet_below (by kernel_rfl) (by kernel_rfl) ?_
    set_option maxRecDepth 100000 in
    repeat (go_big_quiet_step (first
      | (go_at_call 54; exact Calls.regrown_of (HNM.out _))
      | (go_at_call 65; exact Calls.regrown_of (HFM.out _))))
    refine wpQuiet_nil ?_
    intro _ hw'
    obtain ⟨⟨dq, osq⟩, hw''⟩ := hw'
    subst hw''
    have hbq := bl2 hbel3 (below_regrown w3 dq osq)
    clear r0 r1 r2 r3 r4 r5 hbel3
    go_wp2_with fail
    go_ret
    obtain ⟨l1, l2, l3, l4⟩ := HL.out
    exact ⟨ret_str1 (by rw [HFIN.out, ba_cat, ba_cat, ba_cat, ba_cat, l1, l2, l3, l4]), hbq⟩
end Bw
end Go.Proofs.YtdhmjbnpdmneiadDoor

/- Contracts of Go's library that the kit proves once, laid at this program: no walk, one application each. -/
namespace Go.Proofs
open Go.Shelf
def Tryd.lays138_ren : Go.Shelf.Ren := ⟨fun | 138 => 90 | 195 => 103 | 218 => 104 | 143 => 105 | 219 => 114 | 217 => 117 | 225 => 118 | 224 => 119 | 267 => 120 | 266 => 121 | 314 => 122 | n => n, fun | 9 => 9 | 3 => 3 | 4 => 4 | 5 => 5 | 0 => 0 | 46 => 109 | 146 => 139 | 51 => 138 | n => n, fun | 1 => 4 | n => n⟩
theorem Tryd.lays138 : Go.Proofs.Lays.n138 Tryd.prog Tryd.lays138_ren := {
  mixed := by kernel_rfl
  f138 := Tryd.func90.trans (congrArg some (by kernel_rfl))
  f143 := Tryd.func105.trans (congrArg some (by kernel_rfl))
  f195 := Tryd.func103.trans (congrArg some (by kernel_rfl))
  f217 := Tryd.func117.trans (congrArg some (by kernel_rfl))
  f218 := Tryd.func104.trans (congrArg some (by kernel_rfl))
  f219 := Tryd.func114.trans (congrArg some (by kernel_rfl))
  f224 := Tryd.func119.trans (congrArg some (by kernel_rfl))
  f225 := Tryd.func118.trans (congrArg some (by kernel_rfl))
  f266 := Tryd.func121.trans (congrArg some (by kernel_rfl))
  f267 := Tryd.func120.trans (congrArg some (by kernel_rfl))
  f314 := Tryd.func122.trans (congrArg some (by kernel_rfl))
  t0 := Tryd.underlying0
  a0 := Tryd.isAgg0
  z0 := Tryd.sizeOf0
  v0 := Tryd.zeroValue0
  t3 := Tryd.underlying3
  a3 := Tryd.isAgg3
  z3 := Tryd.sizeOf3
  v3 := Tryd.zeroValue3
  t4 := Tryd.underlying4
  a4 := Tryd.isAgg4
  z4 := Tryd.sizeOf4
  v4 := Tryd.zeroValue4
  t5 := Tryd.underlying5
  a5 := Tryd.isAgg5
  z5 := Tryd.sizeOf5
  v5 := Tryd.zeroValue5
  t9 := Tryd.underlying9
  a9 := Tryd.isAgg9
  z9 := Tryd.sizeOf9
  v9 := Tryd.zeroValue9
  t46 := Tryd.underlying109
  a46 := Tryd.isAgg109
  z46 := Tryd.sizeOf109
  v46 := Tryd.zeroValue109
  t51 := Tryd.underlying138
  a51 := Tryd.isAgg138
  z51 := Tryd.sizeOf138
  v51 := Tryd.zeroValue138
  t146 := Tryd.underlying139
  a146 := Tryd.isAgg139
  z146 := Tryd.sizeOf139
  v146 := Tryd.zeroValue139
  g1 := by kernel_rfl }
open Go.RowKit Go.Lib in
theorem Tryd.strings_Count_one (s : ByteArray) (c : UInt8) (w : World) :
    Calls Tryd.prog 90 #[.string s, .string ⟨#[c]⟩] w fun e w' => e = .returned (.int .i64 (Lib.countByte s.data.toList c)) ∧ w' = w := Any.strings_Count_one Tryd.lays138 s c w
end Go.Proofs
