/-
  Formulas as plain trees; what a formula value reads as in memory; the table of operators.
-/
import Derived.Test.YtbnnjbfbifihaaaGreatDoorFsA
import Derived.Test.YtbnnjbfbifihaaaGreatDoorFmS
import Derived.Deep.QuietTactic
import Derived.BigQuiet
import Derived.Below
import Derived.Deep.RegionLaw
import Derived.OwnWalk
namespace Go.Proofs.YtbnnjbfbifihaaaGreatDoor
open Go.RowKit

theorem hidi {p : Prop} (h : p) : Hid p := h
theorem below_drewN {B : Nat} {a w : World} (h : Below B a w) (n : Nat) : Below B a (w.drewN n) := ⟨h.os, h.tape, h.output, h.size, h.block⟩

def I64 (z : Int) : Prop := -9223372036854775808 ≤ z ∧ z ≤ 9223372036854775807
theorem I64.lo {z : Int} (h : I64 z) : -9223372036854775808 ≤ z := h.1
theorem I64.hi {z : Int} (h : I64 z) : z ≤ 9223372036854775807 := h.2

/-- the five cells of a formula at an address -/
def Cells5 (w : World) (b o : Nat) (a1 a2 a3 a4 a5 : Value) : Prop :=
  w.cell? ⟨b, o, none⟩ = some a1 ∧ w.cell? ⟨b, o + 1, none⟩ = some a2 ∧ w.cell? ⟨b, o + 2, none⟩ = some a3 ∧ w.cell? ⟨b, o + 3, none⟩ = some a4 ∧ w.cell? ⟨b, o + 4, none⟩ = some a5

theorem Cells5.below {B : Nat} {w w' : World} {b o : Nat} {a1 a2 a3 a4 a5 : Value} (h : Cells5 w b o a1 a2 a3 a4 a5) (hB : Below B w w') (hb : b < B) : Cells5 w' b o a1 a2 a3 a4 a5 :=
  ⟨(hB.cell (p := ⟨b, o, none⟩) hb).trans h.1, (hB.cell (p := ⟨b, o + 1, none⟩) hb).trans h.2.1, (hB.cell (p := ⟨b, o + 2, none⟩) hb).trans h.2.2.1, (hB.cell (p := ⟨b, o + 3, none⟩) hb).trans h.2.2.2.1, (hB.cell (p := ⟨b, o + 4, none⟩) hb).trans h.2.2.2.2⟩

/-- the value of a formula whose arguments lie in the slice sl -/
def fval (f : Fm) (sl : Value) : Value := .agg #[.int .i64 f.op, .string f.name, .int .i64 f.val, .int .i64 f.bound, sl]

/-- the fields of a formula are fields that fit -/
def Fits (f : Fm) : Prop := I64 f.op ∧ f.name.size ≤ 9223372036854775807 ∧ I64 f.val ∧ I64 f.bound

/-- a slice value reads, in blocks that P allows, as a formula's arguments -/
inductive FArgsP (P : Nat → Prop) (w : World) : Value → List Fm → Prop
  | nil (o : Option Addr) (c : Nat) : FArgsP P w (.slice o 0 c) []
  | cons (b off cap : Nat) (l : List Fm) (sl : Nat → Value) (h0 : 0 < l.length) (hb : P b) (hl : l.length ≤ cap) (hc : cap ≤ 9223372036854775807)
      (hf : ∀ k (h : k < l.length), Fits l[k])
      (hk : ∀ k (h : k < l.length), Cells5 w b (off + k * 5) (.int .i64 l[k].op) (.string l[k].name) (.int .i64 l[k].val) (.int .i64 l[k].bound) (sl k))
      (hr : ∀ k (h : k < l.length), FArgsP P w (sl k) l[k].args) : FArgsP P w (.slice (some ⟨b, off, none⟩) l.length cap) l

/-- a value reads as a formula -/
def FAtP (P : Nat → Prop) (w : World) (v : Value) (f : Fm) : Prop := ∃ sl, v = fval f sl ∧ Fits f ∧ FArgsP P w sl f.args

theorem FArgsP.kept {P : Nat → Prop} {B : Nat} {w w' : World} {v : Value} {l : List Fm} (h : FArgsP P w v l) (hB : Below B w w') (hb : ∀ b, P b → b < B) : FArgsP P w' v l := by
  induction h with
  | nil o c => exact .nil o c
  | cons b off cap l sl h0 hbb hl hc hf hk hr ih => exact .cons b off cap l sl h0 hbb hl hc hf (fun k h => (hk k h).below hB (hb b hbb)) ih
theorem FArgsP.mono {P Q : Nat → Prop} {w : World} {v : Value} {l : List Fm} (h : FArgsP P w v l) (hb : ∀ b, P b → Q b) : FArgsP Q w v l := by
  induction h with
  | nil o c => exact .nil o c
  | cons b off cap l sl h0 hbb hl hc hf hk hr ih => exact .cons b off cap l sl h0 (hb b hbb) hl hc hf hk ih
theorem FArgsP.shape {P : Nat → Prop} {w : World} {v : Value} {l : List Fm} (h : FArgsP P w v l) : ∃ o c, v = .slice o l.length c := by
  cases h with
  | nil o c => exact ⟨_, _, rfl⟩
  | cons => exact ⟨_, _, rfl⟩
theorem FArgsP.len {P : Nat → Prop} {w : World} {v : Value} {l : List Fm} (h : FArgsP P w v l) : l.length ≤ 9223372036854775807 := by
  cases h with
  | nil o c => simp
  | cons b off cap l sl h0 hbb hl hc hf hk hr => omega
theorem FArgsP.cap {P : Nat → Prop} {w : World} {o : Option Addr} {c : Nat} {l : List Fm} (h : FArgsP P w (.slice o l.length c) l) : l.length ≤ c := by
  generalize hv : Value.slice o l.length c = v at h
  cases h with
  | nil o c => simp
  | cons b off cap l sl h0 hbb hl hc hf hk hr => cases hv; exact hl
/-- an argument in memory -/
theorem FArgsP.at {P : Nat → Prop} {w : World} {o : Option Addr} {c : Nat} {l : List Fm} (h : FArgsP P w (.slice o l.length c) l) (h0 : 0 < l.length) : ∃ b off, o = some ⟨b, off, none⟩ ∧ P b ∧
    ∀ k (h : k < l.length), ∃ sl, Cells5 w b (off + k * 5) (.int .i64 l[k].op) (.string l[k].name) (.int .i64 l[k].val) (.int .i64 l[k].bound) sl ∧ FAtP P w (fval l[k] sl) l[k] := by
  generalize hv : Value.slice o l.length c = v at h
  cases h with
  | nil o c => simp at h0
  | cons b off cap l sl h0 hbb hl hc hf hk hr =>
    cases hv
    exact ⟨b, off, rfl, hbb, fun k hk' => ⟨sl k, hk k hk', sl k, rfl, hf k hk', hr k hk'⟩⟩
theorem FAtP.kept {P : Nat → Prop} {B : Nat} {w w' : World} {v : Value} {f : Fm} (h : FAtP P w v f) (hB : Below B w w') (hb : ∀ b, P b → b < B) : FAtP P w' v f := by
  obtain ⟨sl, e, h1, h2⟩ := h
  exact ⟨sl, e, h1, h2.kept hB hb⟩
theorem FAtP.mono {P Q : Nat → Prop} {w : World} {v : Value} {f : Fm} (h : FAtP P w v f) (hb : ∀ b, P b → Q b) : FAtP Q w v f := by
  obtain ⟨sl, e, h1, h2⟩ := h
  exact ⟨sl, e, h1, h2.mono hb⟩
theorem FAtP.open {P : Nat → Prop} {w : World} {v : Value} {f : Fm} (h : FAtP P w v f) : ∃ o c, v = .agg #[.int .i64 f.op, .string f.name, .int .i64 f.val, .int .i64 f.bound, .slice o f.args.length c] ∧ Fits f ∧ FArgsP P w (.slice o f.args.length c) f.args := by
  obtain ⟨sl, rfl, h1, h2⟩ := h
  obtain ⟨o, c, rfl⟩ := h2.shape
  exact ⟨o, c, rfl, h1, h2⟩

/-- the same in blocks below B -/
def FArgs (B : Nat) (w : World) (v : Value) (l : List Fm) : Prop := FArgsP (· < B) w v l
def FAt (B : Nat) (w : World) (v : Value) (f : Fm) : Prop := FAtP (· < B) w v f

theorem FArgs.kept {B B' : Nat} {w w' : World} {v : Value} {l : List Fm} (h : FArgs B w v l) (hB : Below B' w w') (hb : B ≤ B') : FArgs B w' v l := FArgsP.kept h hB fun _ h => Nat.lt_of_lt_of_le h hb
theorem FArgs.mono {B B' : Nat} {w : World} {v : Value} {l : List Fm} (h : FArgs B w v l) (hb : B ≤ B') : FArgs B' w v l := FArgsP.mono h fun _ h => Nat.lt_of_lt_of_le h hb
theorem FArgs.shape {B : Nat} {w : World} {v : Value} {l : List Fm} (h : FArgs B w v l) : ∃ o c, v = .slice o l.length c := FArgsP.shape h
theorem FArgs.len {B : Nat} {w : World} {v : Value} {l : List Fm} (h : FArgs B w v l) : l.length ≤ 9223372036854775807 := FArgsP.len h
theorem FArgs.cap {B : Nat} {w : World} {o : Option Addr} {c : Nat} {l : List Fm} (h : FArgs B w (.slice o l.length c) l) : l.length ≤ c := FArgsP.cap h
theorem FArgs.at {B : Nat} {w : World} {o : Option Addr} {c : Nat} {l : List Fm} (h : FArgs B w (.slice o l.length c) l) (h0 : 0 < l.length) : ∃ b off, o = some ⟨b, off, none⟩ ∧ b < B ∧
    ∀ k (h : k < l.length), ∃ sl, Cells5 w b (off + k * 5) (.int .i64 l[k].op) (.string l[k].name) (.int .i64 l[k].val) (.int .i64 l[k].bound) sl ∧ FAt B w (fval l[k] sl) l[k] := FArgsP.at h h0
theorem FAt.kept {B B' : Nat} {w w' : World} {v : Value} {f : Fm} (h : FAt B w v f) (hB : Below B' w w') (hb : B ≤ B') : FAt B w' v f := FAtP.kept h hB fun _ h => Nat.lt_of_lt_of_le h hb
theorem FAt.mono {B B' : Nat} {w : World} {v : Value} {f : Fm} (h : FAt B w v f) (hb : B ≤ B') : FAt B' w v f := FAtP.mono h fun _ h => Nat.lt_of_lt_of_le h hb
/-- in a later world -/
theorem FAt.next {w w' : World} {v : Value} {f : Fm} (h : FAt w.heap.size w v f) (hB : Below w.heap.size w w') : FAt w'.heap.size w' v f := (h.kept hB (Nat.le_refl _)).mono hB.size
theorem FArgs.next {w w' : World} {v : Value} {l : List Fm} (h : FArgs w.heap.size w v l) (hB : Below w.heap.size w w') : FArgs w'.heap.size w' v l := (h.kept hB (Nat.le_refl _)).mono hB.size
theorem FAt.open {B : Nat} {w : World} {v : Value} {f : Fm} (h : FAt B w v f) : ∃ o c, v = .agg #[.int .i64 f.op, .string f.name, .int .i64 f.val, .int .i64 f.bound, .slice o f.args.length c] ∧ Fits f ∧ FArgs B w (.slice o f.args.length c) f.args := FAtP.open h

/-- what a function hands back that was given formulas in P's blocks: in these and in new ones -/
def NewP (P : Nat → Prop) (w w' : World) (b : Nat) : Prop := P b ∨ (w.heap.size ≤ b ∧ b < w'.heap.size)

/-- what a formula is boxed in -/
theorem box5 (w : World) (a1 a2 a3 a4 a5 : Value) (t : TypeId) : Cells5 (w.alloc (.cells #[a1, a2, a3, a4, a5] t)) w.heap.size 0 a1 a2 a3 a4 a5 := by
  refine ⟨?_, ?_, ?_, ?_, ?_⟩ <;> (rw [cell_of_row _ _ _ _ _ _ (heap_alloc_new w _)]; rfl)
theorem box_lt (w : World) (o : Obj) : w.heap.size < (w.alloc o).heap.size := by simp
theorem below_box (w : World) (o : Obj) : Below w.heap.size w (w.alloc o) := (Below.refl _ _).alloc (Nat.le_refl _) _

/-- the variable that holds the table lies in block 0 -/
structure Env (w : World) : Prop where
  pos : 0 < w.heap.size
  row : ∀ k, k < 20 → w.cell? ⟨0, k * 7, none⟩ = some (.int .i64 (fLeast k)) ∧ w.cell? ⟨0, k * 7 + 1, none⟩ = some (.int .i64 (fMost k)) ∧ w.cell? ⟨0, k * 7 + 2, none⟩ = some (.bool (fNamed k)) ∧
    w.cell? ⟨0, k * 7 + 3, none⟩ = some (.int .i64 (fVal k)) ∧ w.cell? ⟨0, k * 7 + 4, none⟩ = some (.int .i64 (fBound k)) ∧ w.cell? ⟨0, k * 7 + 5, none⟩ = some (.int .i64 (fTense k)) ∧ w.cell? ⟨0, k * 7 + 6, none⟩ = some (.int .i64 (fDual k))

theorem Env.below {w w' : World} (h : Env w) (hB : Below w.heap.size w w') : Env w' := by
  refine ⟨Nat.lt_of_lt_of_le h.pos hB.size, fun k hk => ?_⟩
  obtain ⟨h1, h2, h3, h4, h5, h6, h7⟩ := h.row k hk
  exact ⟨(hB.cell (p := ⟨0, _, none⟩) h.pos).trans h1, (hB.cell (p := ⟨0, _, none⟩) h.pos).trans h2, (hB.cell (p := ⟨0, _, none⟩) h.pos).trans h3, (hB.cell (p := ⟨0, _, none⟩) h.pos).trans h4, (hB.cell (p := ⟨0, _, none⟩) h.pos).trans h5, (hB.cell (p := ⟨0, _, none⟩) h.pos).trans h6, (hB.cell (p := ⟨0, _, none⟩) h.pos).trans h7⟩

end Go.Proofs.YtbnnjbfbifihaaaGreatDoor
