/-
  The laws' walks: boxes of formulas as one goes on.
-/
import Derived.Test.YtlkoacopknolnaaGreatDoorFjB
import Derived.Test.YtlkoacopknolnaaGreatDoorGp
namespace Go.Proofs.YtlkoacopknolnaaGreatDoor
open Go.RowKit

/-- the object of a formula's box -/
def boxO (f : Fm) (o : Option Addr) (c : Nat) : Obj := .cells #[.int .i64 f.op, .string f.name, .int .i64 f.val, .int .i64 f.bound, .slice o f.args.length c] 24
theorem bx_alloc {w : World} {f : Fm} {o : Option Addr} {c : Nat} (hf : Fits f) (ha : FArgsP (fun b => b < w.heap.size ∧ True) w (.slice o f.args.length c) f.args) :
    Below w.heap.size w (w.alloc (boxO f o c)) ∧ Bx (w.alloc (boxO f o c)) w.heap.size f := by
  have hB := below_box w (boxO f o c)
  have hz : (w.alloc (boxO f o c)).heap.size = w.heap.size + 1 := by simp
  refine ⟨hB, by omega, o, c, box5 w _ _ _ _ _ 24, hf, (FArgsP.kept ha hB fun b hb => hb.1).mono fun b hb => by omega⟩
theorem bx_more {w : World} {f : Fm} {k : Nat} {ob : Obj} (h : Bx w k f) : Bx (w.alloc ob) k f := h.below (below_box w ob)
theorem fat_open {w : World} {v : Value} {f : Fm} (h : FAt w.heap.size w v f) : ∃ o c, v = .agg #[.int .i64 f.op, .string f.name, .int .i64 f.val, .int .i64 f.bound, .slice o f.args.length c] ∧ Fits f ∧ FArgsP (fun b => b < w.heap.size ∧ True) w (.slice o f.args.length c) f.args := by
  obtain ⟨o, c, rfl, h1, h2⟩ := h.open
  exact ⟨o, c, rfl, h1, FArgsP.mono h2 fun b hb => ⟨hb, trivial⟩⟩
theorem fargs_more {w : World} {f : Fm} {sl : Value} {ob : Obj} (h : FArgsP (fun b => b < w.heap.size ∧ True) w sl f.args) : FArgsP (fun b => b < (w.alloc ob).heap.size ∧ True) (w.alloc ob) sl f.args :=
  (FArgsP.kept h (below_box w ob) fun _ hb => hb.1).mono fun _ hb => ⟨Nat.lt_of_lt_of_le hb.1 (below_box w ob).size, trivial⟩
theorem bx1_open {w : World} {v1 : Value} {f : Fm} (h1 : FAt w.heap.size w v1 f) : ∃ o1 c1, v1 = .agg #[.int .i64 f.op, .string f.name, .int .i64 f.val, .int .i64 f.bound, .slice o1 f.args.length c1] ∧
    ∃ W0, Hid (w.alloc (boxO f o1 c1) = W0) ∧ Below w.heap.size w W0 ∧ Hid (Bx W0 w.heap.size f) := by
  obtain ⟨o1, c1, rfl, q1, a1⟩ := fat_open h1
  obtain ⟨b1, x1⟩ := bx_alloc q1 a1
  exact ⟨o1, c1, rfl, _, hidi rfl, b1, hidi x1⟩
theorem bx2_open {w : World} {v1 v2 : Value} {f g : Fm} (h1 : FAt w.heap.size w v1 f) (h2 : FAt w.heap.size w v2 g) : ∃ o1 c1 o2 c2, v1 = .agg #[.int .i64 f.op, .string f.name, .int .i64 f.val, .int .i64 f.bound, .slice o1 f.args.length c1] ∧ v2 = .agg #[.int .i64 g.op, .string g.name, .int .i64 g.val, .int .i64 g.bound, .slice o2 g.args.length c2] ∧
    ∃ W0, Hid ((w.alloc (boxO f o1 c1)).alloc (boxO g o2 c2) = W0) ∧ Below w.heap.size w W0 ∧ Hid (Bx W0 w.heap.size f) ∧ Hid (Bx W0 (w.heap.size + 1) g) := by
  obtain ⟨o1, c1, rfl, q1, a1⟩ := fat_open h1
  obtain ⟨o2, c2, rfl, q2, a2⟩ := fat_open h2
  obtain ⟨b1, x1⟩ := bx_alloc q1 a1
  obtain ⟨b2, x2⟩ := bx_alloc (w := w.alloc (boxO f o1 c1)) q2 (fargs_more a2)
  have hz : (w.alloc (boxO f o1 c1)).heap.size = w.heap.size + 1 := by simp
  rw [hz] at x2
  exact ⟨o1, c1, o2, c2, rfl, rfl, _, hidi rfl, b1.trans (b2.mono (by omega)), hidi (bx_more x1), hidi x2⟩
theorem bx3_open {w : World} {v1 v2 v3 : Value} {f g h : Fm} (h1 : FAt w.heap.size w v1 f) (h2 : FAt w.heap.size w v2 g) (h3 : FAt w.heap.size w v3 h) : ∃ o1 c1 o2 c2 o3 c3, v1 = .agg #[.int .i64 f.op, .string f.name, .int .i64 f.val, .int .i64 f.bound, .slice o1 f.args.length c1] ∧ v2 = .agg #[.int .i64 g.op, .string g.name, .int .i64 g.val, .int .i64 g.bound, .slice o2 g.args.length c2] ∧ v3 = .agg #[.int .i64 h.op, .string h.name, .int .i64 h.val, .int .i64 h.bound, .slice o3 h.args.length c3] ∧
    ∃ W0, Hid (((w.alloc (boxO f o1 c1)).alloc (boxO g o2 c2)).alloc (boxO h o3 c3) = W0) ∧ Below w.heap.size w W0 ∧ Hid (Bx W0 w.heap.size f) ∧ Hid (Bx W0 (w.heap.size + 1) g) ∧ Hid (Bx W0 (w.heap.size + 2) h) := by
  obtain ⟨o1, c1, o2, c2, e1, e2, W1, hW1, hB1, x1, x2⟩ := bx2_open h1 h2
  obtain ⟨o3, c3, rfl, q3, a3⟩ := fat_open h3
  have hz : W1.heap.size = w.heap.size + 2 := by rw [← hW1.out]; simp
  have a3' : FArgsP (fun b => b < W1.heap.size ∧ True) W1 (.slice o3 h.args.length c3) h.args := (FArgsP.kept a3 hB1 fun b hb => hb.1).mono fun b hb => ⟨Nat.lt_of_lt_of_le hb.1 hB1.size, trivial⟩
  obtain ⟨b3, x3⟩ := bx_alloc (w := W1) q3 a3'
  rw [hz] at x3
  exact ⟨o1, c1, o2, c2, o3, c3, e1, e2, rfl, W1.alloc (boxO h o3 c3), hidi (by rw [hW1.out]), hB1.trans (b3.mono hB1.size), hidi (bx_more x1.out), hidi (bx_more x2.out), hidi x3⟩

/-- what a call hands back, put into a box -/
theorem bx_new {w : World} {v : Value} {f : Fm} (h : (Fq.fmF f).holds (fun _ => True) v w) : ∃ o c, v = .agg #[.int .i64 f.op, .string f.name, .int .i64 f.val, .int .i64 f.bound, .slice o f.args.length c] ∧
    ∃ W, Hid (w.alloc (boxO f o c) = W) ∧ Below w.heap.size w W ∧ Hid (Bx W w.heap.size f) ∧ Hid (W.heap.size = w.heap.size + 1) := by
  obtain ⟨o, c, rfl, h1, h2⟩ := fq_open h
  obtain ⟨b, x⟩ := bx_alloc h1 h2
  exact ⟨o, c, rfl, _, hidi rfl, b, hidi x, hidi (by simp)⟩
/-- two loaded formulas in a row of their own -/
theorem row_new2 {w : World} {f g : Fm} {o o' : Option Addr} {c c' : Nat} (h1 : (Fq.fmF f).holds (fun _ => True) (.agg #[.int .i64 f.op, .string f.name, .int .i64 f.val, .int .i64 f.bound, .slice o f.args.length c]) w) (h2 : (Fq.fmF g).holds (fun _ => True) (.agg #[.int .i64 g.op, .string g.name, .int .i64 g.val, .int .i64 g.bound, .slice o' g.args.length c']) w) :
    ∃ W, Hid (w.alloc (.cells #[.int .i64 f.op, .string f.name, .int .i64 f.val, .int .i64 f.bound, .slice o f.args.length c, .int .i64 g.op, .string g.name, .int .i64 g.val, .int .i64 g.bound, .slice o' g.args.length c'] 24) = W) ∧ Below w.heap.size w W ∧ (Fq.fmsF [f, g]).holds (fun _ => True) (.slice (some ⟨w.heap.size, 0, none⟩) 2 2) W := by
  obtain ⟨o1, c1, e1, q1, a1⟩ := fq_open h1
  obtain ⟨o2, c2, e2, q2, a2⟩ := fq_open h2
  cases e1; cases e2
  exact ⟨_, hidi rfl, below_box _ _, fms_new2 q1 q2 a1 a2⟩
theorem fq_at {w : World} {v : Value} {f : Fm} (h : (Fq.fmF f).holds (fun _ => True) v w) : FAtP (fun b => b < w.heap.size ∧ True) w v f := h

end Go.Proofs.YtlkoacopknolnaaGreatDoor
