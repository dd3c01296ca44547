/-
  A drawn region by facts: the slots that its operations read, boxes, rows of formulas.
-/
import Derived.Test.YtbnnjbfbifihaaaGreatDoorGx
namespace Go.Proofs.YtbnnjbfbifihaaaGreatDoor
open Go.RowKit

theorem at_eval {a : Act} {k : Tmp} {v : Value} (h : a.tmps[k]? = some v) : a.eval (.tmp k) = v := by simp [Act.eval, h]
/-- no operation writes a slot -/
def freeB (ops : Array Oper) (e : Tmp) : Bool := (List.range ops.size).all fun j => dstOf ops j != some e
theorem Seen.slot {ops : Array Oper} {fs : Nat → Fq} {a0 : Act} {w0 : World} {i : Nat} {a : Act} {W : World} (h : Seen ops fs a0 w0 i a W) {e : Tmp} {v : Value} (hf : freeB ops e = true) (h0 : a0.tmps[e]? = some v) : a.tmps[e]? = some v := by
  rw [h.old e fun j hj hd => ?_, h0]
  unfold freeB at hf
  rw [List.all_eq_true] at hf
  have := hf j (List.mem_range.2 hj)
  rw [hd] at this
  simp at this
theorem Seen.got {ops : Array Oper} {fs : Nat → Fq} {a0 : Act} {w0 : World} {i : Nat} {a : Act} {W : World} (h : Seen ops fs a0 w0 i a W) (j : Nat) {d : Tmp} {q : Fq} (hq : fs j = q) (hj : (depsOf ops i).contains j = true) (hd : dstOf ops j = some d) : ∃ v, a.tmps[d]? = some v ∧ q.holds (fun _ => True) v W := by
  subst hq; exact h.new j d hj hd

/-- a formula in a block of its own -/
def Bx (W : World) (k : Nat) (f : Fm) : Prop := k < W.heap.size ∧ ∃ o c, Cells5 W k 0 (.int .i64 f.op) (.string f.name) (.int .i64 f.val) (.int .i64 f.bound) (.slice o f.args.length c) ∧ Fits f ∧ FArgs W.heap.size W (.slice o f.args.length c) f.args
theorem Bx.below {W W' : World} {k : Nat} {f : Fm} (h : Bx W k f) (hB : Below W.heap.size W W') : Bx W' k f := by
  obtain ⟨h1, o, c, h2, h3, h4⟩ := h
  exact ⟨Nat.lt_of_lt_of_le h1 hB.size, o, c, h2.below hB h1, h3, (h4.kept hB (Nat.le_refl _)).mono hB.size⟩
/-- the cells of a block, as a walk wants them -/
theorem Bx.cells {W : World} {k : Nat} {f : Fm} (h : Bx W k f) : ∃ o c, (W.cell? ⟨k, 0, none⟩ = some (.int .i64 f.op) ∧ W.cell? ⟨k, 1, none⟩ = some (.string f.name) ∧ W.cell? ⟨k, 2, none⟩ = some (.int .i64 f.val) ∧ W.cell? ⟨k, 3, none⟩ = some (.int .i64 f.bound) ∧ W.cell? ⟨k, 4, none⟩ = some (.slice o f.args.length c)) ∧
    (Fq.fmF f).holds (fun _ => True) (.agg #[.int .i64 f.op, .string f.name, .int .i64 f.val, .int .i64 f.bound, .slice o f.args.length c]) W := by
  obtain ⟨-, o, c, ⟨b0, b1, b2, b3, b4⟩, hf, ha⟩ := h
  rw [Nat.zero_add] at b1 b2 b3 b4
  exact ⟨o, c, ⟨b0, b1, b2, b3, b4⟩, _, rfl, hf, FArgsP.mono ha fun b hb => ⟨hb, trivial⟩⟩
/-- a formula value, opened -/
theorem fq_open {v : Value} {f : Fm} {W : World} (h : (Fq.fmF f).holds (fun _ => True) v W) : ∃ o c, v = .agg #[.int .i64 f.op, .string f.name, .int .i64 f.val, .int .i64 f.bound, .slice o f.args.length c] ∧ Fits f ∧ FArgsP (fun b => b < W.heap.size ∧ True) W (.slice o f.args.length c) f.args := by
  obtain ⟨o, c, e, h1, h2⟩ := FAtP.open h
  exact ⟨o, c, e, h1, h2⟩
theorem fm_field0 (W : World) (a v b : Int) (n : ByteArray) (sl : Value) : (Instr.field 24 (.agg #[.int .i64 a, .string n, .int .i64 v, .int .i64 b, sl]) 0).run Tryz.prog W = .ok (.int .i64 a) W := by kernel_rfl
/-- new rows of formulas -/
theorem fms_new1 {W : World} {f : Fm} {sl : Value} (hf : Fits f) (ha : FArgsP (fun b => b < W.heap.size ∧ True) W sl f.args) :
    (Fq.fmsF [f]).holds (fun _ => True) (.slice (some ⟨W.heap.size, 0, none⟩) 1 1) (W.alloc (.cells #[.int .i64 f.op, .string f.name, .int .i64 f.val, .int .i64 f.bound, sl] 24)) := by
  have hz : (W.alloc (.cells #[.int .i64 f.op, .string f.name, .int .i64 f.val, .int .i64 f.bound, sl] 24)).heap.size = W.heap.size + 1 := by simp
  refine args_one ⟨by omega, trivial⟩ (heap_alloc_new W _) hf ((FArgsP.kept ha (below_box W _) fun b hb => hb.1).mono fun b hb => ⟨by omega, trivial⟩)
theorem fms_new2 {W : World} {f g : Fm} {sl sl' : Value} (hf : Fits f) (hg : Fits g) (ha : FArgsP (fun b => b < W.heap.size ∧ True) W sl f.args) (ha' : FArgsP (fun b => b < W.heap.size ∧ True) W sl' g.args) :
    (Fq.fmsF [f, g]).holds (fun _ => True) (.slice (some ⟨W.heap.size, 0, none⟩) 2 2) (W.alloc (.cells #[.int .i64 f.op, .string f.name, .int .i64 f.val, .int .i64 f.bound, sl, .int .i64 g.op, .string g.name, .int .i64 g.val, .int .i64 g.bound, sl'] 24)) := by
  have hz : (W.alloc (.cells #[.int .i64 f.op, .string f.name, .int .i64 f.val, .int .i64 f.bound, sl, .int .i64 g.op, .string g.name, .int .i64 g.val, .int .i64 g.bound, sl'] 24)).heap.size = W.heap.size + 1 := by simp
  refine args_two ⟨by omega, trivial⟩ (heap_alloc_new W _) hf hg ((FArgsP.kept ha (below_box W _) fun b hb => hb.1).mono fun b hb => ⟨by omega, trivial⟩) ((FArgsP.kept ha' (below_box W _) fun b hb => hb.1).mono fun b hb => ⟨by omega, trivial⟩)
theorem args_three {P : Nat → Prop} {w : World} {b : Nat} {f g h : Fm} {sl sl' sl2 : Value} (hb : P b) (hr : w.heap[b]? = some (.cells #[.int .i64 f.op, .string f.name, .int .i64 f.val, .int .i64 f.bound, sl, .int .i64 g.op, .string g.name, .int .i64 g.val, .int .i64 g.bound, sl', .int .i64 h.op, .string h.name, .int .i64 h.val, .int .i64 h.bound, sl2] 24 (0, 0)))
    (hf : Fits f) (hg : Fits g) (hh : Fits h) (ha : FArgsP P w sl f.args) (hga : FArgsP P w sl' g.args) (hha : FArgsP P w sl2 h.args) : FArgsP P w (.slice (some ⟨b, 0, none⟩) 3 3) [f, g, h] := by
  refine FArgsP.cons b 0 3 [f, g, h] (fun k => if k = 0 then sl else if k = 1 then sl' else sl2) (by simp) hb (by simp) (by decide) (fun k hk => ?_) (fun k hk => ?_) (fun k hk => ?_)
  all_goals (have h2 : k = 0 ∨ k = 1 ∨ k = 2 := by simp at hk; omega)
  all_goals rcases h2 with rfl | rfl | rfl
  · exact hf
  · exact hg
  · exact hh
  · exact ⟨cell_of_row w b 0 _ _ _ hr, cell_of_row w b 1 _ _ _ hr, cell_of_row w b 2 _ _ _ hr, cell_of_row w b 3 _ _ _ hr, cell_of_row w b 4 _ _ _ hr⟩
  · exact ⟨cell_of_row w b 5 _ _ _ hr, cell_of_row w b 6 _ _ _ hr, cell_of_row w b 7 _ _ _ hr, cell_of_row w b 8 _ _ _ hr, cell_of_row w b 9 _ _ _ hr⟩
  · exact ⟨cell_of_row w b 10 _ _ _ hr, cell_of_row w b 11 _ _ _ hr, cell_of_row w b 12 _ _ _ hr, cell_of_row w b 13 _ _ _ hr, cell_of_row w b 14 _ _ _ hr⟩
  · exact ha
  · exact hga
  · exact hha
theorem fms_new3 {W : World} {f g h : Fm} {sl sl' sl2 : Value} (hf : Fits f) (hg : Fits g) (hh : Fits h) (ha : FArgsP (fun b => b < W.heap.size ∧ True) W sl f.args) (ha' : FArgsP (fun b => b < W.heap.size ∧ True) W sl' g.args) (ha2 : FArgsP (fun b => b < W.heap.size ∧ True) W sl2 h.args) :
    (Fq.fmsF [f, g, h]).holds (fun _ => True) (.slice (some ⟨W.heap.size, 0, none⟩) 3 3) (W.alloc (.cells #[.int .i64 f.op, .string f.name, .int .i64 f.val, .int .i64 f.bound, sl, .int .i64 g.op, .string g.name, .int .i64 g.val, .int .i64 g.bound, sl', .int .i64 h.op, .string h.name, .int .i64 h.val, .int .i64 h.bound, sl2] 24)) := by
  have hz : (W.alloc (.cells #[.int .i64 f.op, .string f.name, .int .i64 f.val, .int .i64 f.bound, sl, .int .i64 g.op, .string g.name, .int .i64 g.val, .int .i64 g.bound, sl', .int .i64 h.op, .string h.name, .int .i64 h.val, .int .i64 h.bound, sl2] 24)).heap.size = W.heap.size + 1 := by simp
  have k := below_box W (.cells #[.int .i64 f.op, .string f.name, .int .i64 f.val, .int .i64 f.bound, sl, .int .i64 g.op, .string g.name, .int .i64 g.val, .int .i64 g.bound, sl', .int .i64 h.op, .string h.name, .int .i64 h.val, .int .i64 h.bound, sl2] 24)
  refine args_three ⟨by omega, trivial⟩ (heap_alloc_new W _) hf hg hh ((FArgsP.kept ha k fun b hb => hb.1).mono fun b hb => ⟨by omega, trivial⟩) ((FArgsP.kept ha' k fun b hb => hb.1).mono fun b hb => ⟨by omega, trivial⟩) ((FArgsP.kept ha2 k fun b hb => hb.1).mono fun b hb => ⟨by omega, trivial⟩)
theorem strs_got {W W2 : World} {r : Value} {l : List ByteArray} (h : StrsP (fun b => W.heap.size ≤ b ∧ b < W2.heap.size) W2 r l) : (Fq.strsF l).holds (fun _ => True) r W2 := StrsP.mono h fun _ hb => ⟨hb.2, trivial⟩

end Go.Proofs.YtbnnjbfbifihaaaGreatDoor
