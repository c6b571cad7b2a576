/- Signals, readings and messages that lie in rows. -/
import Derived.Test.YtlnkhlifkooohaaGreatDoorMsgMath
import Derived.Test.YtlnkhlifkooohaaGreatDoorBase8
namespace Go.Proofs.YtlnkhlifkooohaaGreatDoor
open Go.ChangeShapes Go.WideShapes Go.ChangeAt Go.RowKit
namespace Bw
open Sm
def sgCl (s : Sig) : List Value := [.string s.nm, .int .i64 s.st, .int .i64 s.sz, .bool s.bk, .bool s.sg, .int .i64 s.mu, .int .i64 s.di, .int .i64 s.ad, .int .i64 s.ky]
/-- a row of elements of n cells each -/
structure IsCl {α : Type} (cl : α → List Value) (n : Nat) (w : World) (a : Option Addr) (ln cap : Nat) (l : List α) : Prop where
  len : l.length = ln
  le : ln ≤ cap
  max : cap ≤ maxLen
  none : a = none → ln = 0
  cell : ∀ x, a = .some x → ∀ i (hi : i < l.length), ∀ k, k < n → w.cell? (x.add (i * n + k)) = (cl l[i])[k]?
theorem IsCl.kept {α : Type} {cl : α → List Value} {n : Nat} {w w' : World} {a : Option Addr} {len cap : Nat} {l : List α} (hn : ∀ x, (cl x).length = n) (h : IsCl cl n w a len cap l) (hb : Below w.heap.size w w') : IsCl cl n w' a len cap l :=
  ⟨h.len, h.le, h.max, h.none, fun x hx i hi k hk => by
    have h1 := h.cell x hx i hi k hk
    have h2 : k < (cl l[i]).length := by rw [hn]; exact hk
    rw [List.getElem?_eq_getElem h2] at h1 ⊢
    exact cell_kept hb h1⟩
theorem IsCl.take {α : Type} {cl : α → List Value} {n : Nat} {w : World} {a : Option Addr} {len cap : Nat} {l : List α} (h : IsCl cl n w a len cap l) {k : Nat} (hk : k ≤ len) : IsCl cl n w a k cap (l.take k) :=
  ⟨by have := h.len; simp; omega, Nat.le_trans hk h.le, h.max, fun e => by have := h.none e; omega, fun x hx i hi q hq => by
    have hi' : i < l.length := by simp at hi; omega
    rw [List.getElem_take]
    exact h.cell x hx i hi' q hq⟩
theorem cl_next (x : Addr) (m j : Nat) : x.add (m + (j + 1)) = ⟨(x.add m).block, (x.add m).off + (j + 1), none⟩ := by
  unfold Addr.add
  by_cases h : m = 0
  · subst h; simp
  · simp [h]; omega
theorem IsCl.some {α : Type} {cl : α → List Value} {n : Nat} {w : World} {a : Option Addr} {len cap : Nat} {l : List α} (h : IsCl cl n w a len cap l) {i : Nat} (hi : i < len) : ∃ x, a = .some x := by
  cases a with
  | none => exact absurd (h.none rfl) (by omega)
  | some x => exact ⟨x, rfl⟩
theorem getD_at {α : Type} {l : List α} {i : Nat} (h : i < l.length) (z : α) : l.getD i z = l[i] := by simp [List.getD, h]
/-- signals in a row -/
def IsSigs (w : World) (a : Option Addr) (n cap : Nat) (l : List Sig) : Prop := IsCl sgCl 9 w a n cap l
theorem IsSigs.kept {w w' : World} {a : Option Addr} {n cap : Nat} {l : List Sig} (h : IsSigs w a n cap l) (hb : Below w.heap.size w w') : IsSigs w' a n cap l := IsCl.kept (fun _ => rfl) h hb
theorem IsSigs.take {w : World} {a : Option Addr} {n cap : Nat} {l : List Sig} (h : IsSigs w a n cap l) {k : Nat} (hk : k ≤ n) : IsSigs w a k cap (l.take k) := IsCl.take h hk
theorem IsSigs.some {w : World} {a : Option Addr} {n cap : Nat} {l : List Sig} (h : IsSigs w a n cap l) {i : Nat} (hi : i < n) : ∃ x, a = .some x := IsCl.some h hi
/-- a signal's cells from an address on -/
structure SgOn (w : World) (y : Addr) (s : Sig) : Prop where
  c0 : w.cell? y = .some (.string s.nm)
  c1 : w.cell? ⟨y.block, y.off + 1, none⟩ = .some (.int .i64 s.st)
  c2 : w.cell? ⟨y.block, y.off + 2, none⟩ = .some (.int .i64 s.sz)
  c3 : w.cell? ⟨y.block, y.off + 3, none⟩ = .some (.bool s.bk)
  c4 : w.cell? ⟨y.block, y.off + 4, none⟩ = .some (.bool s.sg)
  c5 : w.cell? ⟨y.block, y.off + 5, none⟩ = .some (.int .i64 s.mu)
  c6 : w.cell? ⟨y.block, y.off + 6, none⟩ = .some (.int .i64 s.di)
  c7 : w.cell? ⟨y.block, y.off + 7, none⟩ = .some (.int .i64 s.ad)
  c8 : w.cell? ⟨y.block, y.off + 8, none⟩ = .some (.int .i64 s.ky)
theorem IsSigs.at {w : World} {x : Addr} {n cap : Nat} {l : List Sig} (h : IsSigs w (.some x) n cap l) {i : Nat} (hi : i < n) : SgOn w (x.add (i * 9)) (l.getD i noS) := by
  have hl : i < l.length := by have := h.len; omega
  have h1 := h.cell x rfl i hl
  rw [getD_at hl]
  refine ⟨?_, ?_, ?_, ?_, ?_, ?_, ?_, ?_, ?_⟩
  · exact h1 0 (by omega)
  · rw [← cl_next x (i * 9) 0]; exact h1 1 (by omega)
  · rw [← cl_next x (i * 9) 1]; exact h1 2 (by omega)
  · rw [← cl_next x (i * 9) 2]; exact h1 3 (by omega)
  · rw [← cl_next x (i * 9) 3]; exact h1 4 (by omega)
  · rw [← cl_next x (i * 9) 4]; exact h1 5 (by omega)
  · rw [← cl_next x (i * 9) 5]; exact h1 6 (by omega)
  · rw [← cl_next x (i * 9) 6]; exact h1 7 (by omega)
  · rw [← cl_next x (i * 9) 7]; exact h1 8 (by omega)
theorem IsSigs.mem {w : World} {a : Option Addr} {n cap : Nat} {l : List Sig} (h : IsSigs w a n cap l) {i : Nat} (hi : i < n) : l.getD i noS ∈ l := by
  have hl : i < l.length := by have := h.len; omega
  rw [getD_at hl]
  exact List.getElem_mem hl
/-- readings in a row -/
def rdCl (r : Rd) : List Value := [.string r.nm, .int .i64 r.num, .int .i64 r.den]
def IsRds (w : World) (a : Option Addr) (n cap : Nat) (l : List Rd) : Prop := IsCl rdCl 3 w a n cap l
theorem IsRds.kept {w w' : World} {a : Option Addr} {n cap : Nat} {l : List Rd} (h : IsRds w a n cap l) (hb : Below w.heap.size w w') : IsRds w' a n cap l := IsCl.kept (fun _ => rfl) h hb
theorem IsRds.some {w : World} {a : Option Addr} {n cap : Nat} {l : List Rd} (h : IsRds w a n cap l) {i : Nat} (hi : i < n) : ∃ x, a = .some x := IsCl.some h hi
def noR : Rd := ⟨⟨#[]⟩, 0, 0⟩
theorem IsRds.at {w : World} {x : Addr} {n cap : Nat} {l : List Rd} (h : IsRds w (.some x) n cap l) {i : Nat} (hi : i < n) :
    w.cell? (x.add (i * 3)) = .some (.string (l.getD i noR).nm) ∧ w.cell? ⟨(x.add (i * 3)).block, (x.add (i * 3)).off + 1, none⟩ = .some (.int .i64 (l.getD i noR).num) ∧ w.cell? ⟨(x.add (i * 3)).block, (x.add (i * 3)).off + 2, none⟩ = .some (.int .i64 (l.getD i noR).den) := by
  have hl : i < l.length := by have := h.len; omega
  have h1 := h.cell x rfl i hl
  rw [getD_at hl, ← cl_next x (i * 3) 0, ← cl_next x (i * 3) 1]
  exact ⟨h1 0 (by omega), h1 1 (by omega), h1 2 (by omega)⟩
/-- a message as it lies in memory -/
structure MsV where
  m : Msg
  a : Option Addr
  n : Nat
  cap : Nat
def msCl (v : MsV) : List Value := [.int .i64 v.m.id, .bool v.m.lo, .string v.m.nm, .int .i64 v.m.size, .int .i64 v.m.ch, .slice v.a v.n v.cap]
def msV (v : MsV) : Value := .agg #[.int .i64 v.m.id, .bool v.m.lo, .string v.m.nm, .int .i64 v.m.size, .int .i64 v.m.ch, .slice v.a v.n v.cap]
def msC (v : MsV) : Obj := .cells #[.int .i64 v.m.id, .bool v.m.lo, .string v.m.nm, .int .i64 v.m.size, .int .i64 v.m.ch, .slice v.a v.n v.cap] 24
/-- what is known of a message that came in -/
structure MsIn (w : World) (v : MsV) : Prop where
  nm : v.m.nm.size ≤ 9223372036854775807
  row : IsSigs w v.a v.n v.cap v.m.sigs
  wf : ∀ s ∈ v.m.sigs, wfS s
theorem MsIn.kept {w w' : World} {v : MsV} (h : MsIn w v) (hb : Below w.heap.size w w') : MsIn w' v := ⟨h.nm, h.row.kept hb, h.wf⟩
/-- a message's cells from an address on -/
structure MsOn (w : World) (y : Addr) (v : MsV) : Prop where
  c0 : w.cell? y = some (.int .i64 v.m.id)
  c1 : w.cell? ⟨y.block, y.off + 1, none⟩ = some (.bool v.m.lo)
  c2 : w.cell? ⟨y.block, y.off + 2, none⟩ = some (.string v.m.nm)
  c3 : w.cell? ⟨y.block, y.off + 3, none⟩ = some (.int .i64 v.m.size)
  c4 : w.cell? ⟨y.block, y.off + 4, none⟩ = some (.int .i64 v.m.ch)
  c5 : w.cell? ⟨y.block, y.off + 5, none⟩ = some (.slice v.a v.n v.cap)
/-- block g holds a message -/
structure MsAt (w : World) (g : Nat) (v : MsV) : Prop where
  c0 : w.cell? ⟨g, 0, none⟩ = some (.int .i64 v.m.id)
  c1 : w.cell? ⟨g, 1, none⟩ = some (.bool v.m.lo)
  c2 : w.cell? ⟨g, 2, none⟩ = some (.string v.m.nm)
  c3 : w.cell? ⟨g, 3, none⟩ = some (.int .i64 v.m.size)
  c4 : w.cell? ⟨g, 4, none⟩ = some (.int .i64 v.m.ch)
  c5 : w.cell? ⟨g, 5, none⟩ = some (.slice v.a v.n v.cap)
theorem MsAt.kept {w w' : World} {g : Nat} {v : MsV} (h : MsAt w g v) (hb : Below w.heap.size w w') : MsAt w' g v :=
  ⟨cell_kept hb h.c0, cell_kept hb h.c1, cell_kept hb h.c2, cell_kept hb h.c3, cell_kept hb h.c4, cell_kept hb h.c5⟩
theorem MsAt.box (w : World) (v : MsV) : MsAt (w.alloc (msC v)) w.heap.size v := by
  have h := fun j => cell_of_row (w.alloc (msC v)) w.heap.size j _ _ _ (heap_alloc_new w _)
  exact ⟨h 0, h 1, h 2, h 3, h 4, h 5⟩
theorem ms_box (w : World) (v : MsV) : Below w.heap.size w (w.alloc (msC v)) := (Below.refl _ _).alloc (Nat.le_refl _) _
/-- messages in a row -/
structure IsMsgs (w : World) (a : Option Addr) (n cap : Nat) (l : List MsV) : Prop where
  row : IsCl msCl 6 w a n cap l
  each : ∀ v ∈ l, MsIn w v
theorem IsMsgs.kept {w w' : World} {a : Option Addr} {n cap : Nat} {l : List MsV} (h : IsMsgs w a n cap l) (hb : Below w.heap.size w w') : IsMsgs w' a n cap l :=
  ⟨IsCl.kept (fun _ => rfl) h.row hb, fun v hv => (h.each v hv).kept hb⟩
theorem IsMsgs.take {w : World} {a : Option Addr} {n cap : Nat} {l : List MsV} (h : IsMsgs w a n cap l) {k : Nat} (hk : k ≤ n) : IsMsgs w a k cap (l.take k) :=
  ⟨IsCl.take h.row hk, fun v hv => h.each v (List.mem_of_mem_take hv)⟩
def noM : MsV := ⟨⟨0, false, ⟨#[]⟩, 0, 0, []⟩, none, 0, 0⟩
theorem IsMsgs.at {w : World} {x : Addr} {n cap : Nat} {l : List MsV} (h : IsMsgs w (some x) n cap l) {i : Nat} (hi : i < n) : MsOn w (x.add (i * 6)) (l.getD i noM) := by
  have hl : i < l.length := by have := h.row.len; omega
  have h1 := h.row.cell x rfl i hl
  rw [getD_at hl]
  refine ⟨?_, ?_, ?_, ?_, ?_, ?_⟩
  · exact h1 0 (by omega)
  · rw [← cl_next x (i * 6) 0]; exact h1 1 (by omega)
  · rw [← cl_next x (i * 6) 1]; exact h1 2 (by omega)
  · rw [← cl_next x (i * 6) 2]; exact h1 3 (by omega)
  · rw [← cl_next x (i * 6) 3]; exact h1 4 (by omega)
  · rw [← cl_next x (i * 6) 4]; exact h1 5 (by omega)
theorem IsMsgs.mem {w : World} {a : Option Addr} {n cap : Nat} {l : List MsV} (h : IsMsgs w a n cap l) {i : Nat} (hi : i < n) : l.getD i noM ∈ l := by
  have hl : i < l.length := by have := h.row.len; omega
  rw [getD_at hl]
  exact List.getElem_mem hl
end Bw
end Go.Proofs.YtlnkhlifkooohaaGreatDoor
