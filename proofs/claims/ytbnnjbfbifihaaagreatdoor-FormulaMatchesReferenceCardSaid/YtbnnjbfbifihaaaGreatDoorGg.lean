/-
  Contracts that the formula laws stand on, part Gg.
-/
import Derived.Test.YtbnnjbfbifihaaaGreatDoorFmG
import Derived.Deep.RegionHeld3
import Derived.Deep.DrawnRows
import Derived.Deep.LoopGhost
import Derived.Deep.AppendLies
import Derived.Test.YtbnnjbfbifihaaaGreatDoorGc
import Derived.Test.YtbnnjbfbifihaaaGreatDoorGb

/-
  The contracts of package formula's firstTick and meaning.
-/
namespace Go.Proofs.YtbnnjbfbifihaaaGreatDoor
open Go.RowKit
attribute [local go_sem ↓] Go.wp_at_zero Go.wp_at_succ

set_option maxHeartbeats 1000000 in
/-- the very value -/
theorem compound_val (op val : Int) (o : Option Addr) (n c : Nat) (w : World) :
    Calls Tryz.prog 126 #[.int .i64 op, .int .i64 val, .slice o n c] w fun e w' => e = .returned (.agg #[.int .i64 op, .string ⟨#[]⟩, .int .i64 val, .int .i64 0, .slice o n c]) ∧ Below w.heap.size w w' := by
  go_enter Tryz.func126, Tryz.ntmps126
  go_wp2
  refine bodyPost_ret (results_cell_row rfl _ _ (w.heap.size) 24 _ (0, 0) _ rfl (heap_alloc_new w _) Tryz.underlying24 rfl fmSize) rfl ?_
  exact ⟨rfl, below_box _ _⟩

theorem args_at0 {P : Nat → Prop} {w : World} {o : Option Addr} {c : Nat} {la : List Fm} {x : Fm} {l : List Fm} (hA : FArgsP P w (.slice o la.length c) la) (ha : la = x :: l) :
    ∃ b off sl, o = some ⟨b, off, none⟩ ∧ P b ∧ Cells5 w b off (.int .i64 x.op) (.string x.name) (.int .i64 x.val) (.int .i64 x.bound) sl ∧ Fits x ∧ FArgsP P w sl x.args := by
  subst ha
  obtain ⟨b, off, rfl, hb, hat⟩ := hA.at (by simp)
  obtain ⟨sl, hc, sl', e, h1, h2⟩ := hat 0 (by simp)
  have e' : sl = sl' := by simpa [fval] using e
  subst e'
  rw [Nat.zero_mul, Nat.add_zero] at hc
  exact ⟨b, off, sl, rfl, hb, hc, h1, h2⟩
theorem args_at1 {P : Nat → Prop} {w : World} {o : Option Addr} {c : Nat} {la : List Fm} {x y : Fm} {l : List Fm} (hA : FArgsP P w (.slice o la.length c) la) (ha : la = x :: y :: l) :
    ∃ b off sl sl', o = some ⟨b, off, none⟩ ∧ P b ∧ Cells5 w b off (.int .i64 x.op) (.string x.name) (.int .i64 x.val) (.int .i64 x.bound) sl ∧ Fits x ∧ FArgsP P w sl x.args ∧
      Cells5 w b (off + 5) (.int .i64 y.op) (.string y.name) (.int .i64 y.val) (.int .i64 y.bound) sl' ∧ Fits y ∧ FArgsP P w sl' y.args := by
  subst ha
  obtain ⟨b, off, rfl, hb, hat⟩ := hA.at (by simp)
  obtain ⟨sl, hc, sl', e, h1, h2⟩ := hat 0 (by simp)
  obtain ⟨sk, kc, sk', ke, k1, k2⟩ := hat 1 (by simp)
  have e' : sl = sl' := by simpa [fval] using e
  have e2 : sk = sk' := by simpa [fval] using ke
  subst e' e2
  rw [Nat.zero_mul, Nat.add_zero] at hc
  rw [Nat.one_mul] at kc
  exact ⟨b, off, sl, sk, rfl, hb, hc, h1, h2, kc, k1, k2⟩
/-- a later world in which, of what was there, the block R alone may have changed -/
structure Sv (W0 : World) (R : Nat) (W : World) : Prop where
  os : W.os = W0.os
  tape : W.tape = W0.tape
  output : W.output = W0.output
  size : W0.heap.size ≤ W.heap.size
  block : ∀ k, k < W0.heap.size → k ≠ R → W.heap[k]? = W0.heap[k]?
theorem Sv.refl (W0 : World) (R : Nat) : Sv W0 R W0 := ⟨rfl, rfl, rfl, Nat.le_refl _, fun _ _ _ => rfl⟩
theorem Sv.of_below {W0 W : World} {R : Nat} (h : Below W0.heap.size W0 W) : Sv W0 R W := ⟨h.os, h.tape, h.output, h.size, fun k hk _ => h.block k hk⟩
theorem Sv.trans {W0 W W' : World} {R : Nat} (h : Sv W0 R W) (k : Sv W R W') : Sv W0 R W' := ⟨k.os.trans h.os, k.tape.trans h.tape, k.output.trans h.output, Nat.le_trans h.size k.size, fun j hj hn => (k.block j (Nat.lt_of_lt_of_le hj h.size) hn).trans (h.block j hj hn)⟩
theorem Sv.next {W0 W W' : World} {R : Nat} (h : Sv W0 R W) (k : Below W.heap.size W W') : Sv W0 R W' := h.trans (Sv.of_below k)
theorem Sv.drew {W0 W : World} {R : Nat} (h : Sv W0 R W) : Sv W0 R W.drew := ⟨h.os, h.tape, h.output, h.size, h.block⟩
theorem res_drew {W : World} {R : Nat} (h : Res5 W R) : Res5 W.drew R := h
theorem res_set {W : World} {R : Nat} (h : Res5 W R) (u1 u2 u3 u4 u5 : Value) : Res5 (((((W.setCell ⟨R, 0, none⟩ u1).setCell ⟨R, 1, none⟩ u2).setCell ⟨R, 2, none⟩ u3).setCell ⟨R, 3, none⟩ u4).setCell ⟨R, 4, none⟩ u5) R := ⟨_, _, _, _, _, h.set _ _ _ _ _⟩
theorem Sv.alloc {W0 W : World} {R : Nat} (h : Sv W0 R W) (o : Obj) : Sv W0 R (W.alloc o) := h.next (below_box W o)
theorem Sv.set {W0 W : World} {R : Nat} (h : Sv W0 R W) (j : Nat) (u : Value) : Sv W0 R (W.setCell ⟨R, j, none⟩ u) :=
  ⟨h.os, h.tape, h.output, by simp only [World.setCell, Array.size_modify]; exact h.size, fun k hk hn => (Below.heap_setCell _ _ _ _ hn).trans (h.block k hk hn)⟩
theorem Sv.cell {W0 W : World} {R : Nat} (h : Sv W0 R W) {b o : Nat} {v : Value} (hb : b < W0.heap.size) (hn : b ≠ R) (hc : W0.cell? ⟨b, o, none⟩ = some v) : W.cell? ⟨b, o, none⟩ = some v := (World.cell?_of_block (h.block b hb hn)).trans hc
theorem Sv.below {w W0 W : World} {R : Nat} (h : Sv W0 R W) (h0 : Below w.heap.size w W0) (hR : w.heap.size ≤ R) : Below w.heap.size w W :=
  ⟨h.os.trans h0.os, h.tape.trans h0.tape, h.output.trans h0.output, Nat.le_trans h0.size h.size, fun k hk => (h.block k (Nat.lt_of_lt_of_le hk h0.size) (by omega)).trans (h0.block k hk)⟩

/-- the cells that a region reads, in later worlds -/
abbrev KeepS (W0 : World) (R k b off : Nat) (s x0 x1 x2 x3 x4 : Value) (W : World) : Prop := W.cell? ⟨k, 4, none⟩ = some s ∧ W.cell? ⟨b, off, none⟩ = some x0 ∧ W.cell? ⟨b, off + 1, none⟩ = some x1 ∧ W.cell? ⟨b, off + 2, none⟩ = some x2 ∧ W.cell? ⟨b, off + 3, none⟩ = some x3 ∧ W.cell? ⟨b, off + 4, none⟩ = some x4 ∧ Sv W0 R W ∧ Res5 W R
def Keep7 (W0 : World) (R k b off : Nat) (s x0 x1 x2 x3 x4 : Value) : Prop := ∀ W, Sv W0 R W → Res5 W R → KeepS W0 R k b off s x0 x1 x2 x3 x4 W
theorem keep0 {W0 : World} {R k b off : Nat} {s x0 x1 x2 x3 x4 : Value} (hk : k < W0.heap.size) (hb : b < W0.heap.size) (hkR : k ≠ R) (hbR : b ≠ R) (h : W0.cell? ⟨k, 4, none⟩ = some s) (h0 : W0.cell? ⟨b, off, none⟩ = some x0) (h1 : W0.cell? ⟨b, off + 1, none⟩ = some x1) (h2 : W0.cell? ⟨b, off + 2, none⟩ = some x2) (h3 : W0.cell? ⟨b, off + 3, none⟩ = some x3) (h4 : W0.cell? ⟨b, off + 4, none⟩ = some x4) :
    Keep7 W0 R k b off s x0 x1 x2 x3 x4 := fun _ hB hR =>
  ⟨hB.cell hk hkR h, hB.cell hb hbR h0, hB.cell hb hbR h1, hB.cell hb hbR h2, hB.cell hb hbR h3, hB.cell hb hbR h4, hB, hR⟩
theorem keep_drew {W0 : World} {R k b off : Nat} {s x0 x1 x2 x3 x4 : Value} (h : Keep7 W0 R k b off s x0 x1 x2 x3 x4) (hR : Res5 W0 R) : KeepS W0 R k b off s x0 x1 x2 x3 x4 W0.drew := h _ (Sv.refl W0 R).drew hR
theorem keep_call {W0 W W' : World} {R k b off : Nat} {s x0 x1 x2 x3 x4 : Value} (h : Keep7 W0 R k b off s x0 x1 x2 x3 x4) (hS : Sv W0 R W) (hR : Res5 W R) (hb : Below W.heap.size W W') : KeepS W0 R k b off s x0 x1 x2 x3 x4 W' := h _ (hS.next hb) (hR.below hb)
theorem keep_alloc {W0 W : World} {o : Obj} {R k b off : Nat} {s x0 x1 x2 x3 x4 : Value} (h : Keep7 W0 R k b off s x0 x1 x2 x3 x4) (hS : Sv W0 R W) (hR : Res5 W R) : KeepS W0 R k b off s x0 x1 x2 x3 x4 (W.alloc o) := h _ (hS.alloc o) (hR.below (below_box W o))
theorem keep_set {W0 W : World} {R k b off : Nat} {s x0 x1 x2 x3 x4 u1 u2 u3 u4 u5 : Value} (h : Keep7 W0 R k b off s x0 x1 x2 x3 x4) (hS : Sv W0 R W) (hR : Res5 W R) : KeepS W0 R k b off s x0 x1 x2 x3 x4 (((((W.setCell ⟨R, 0, none⟩ u1).setCell ⟨R, 1, none⟩ u2).setCell ⟨R, 2, none⟩ u3).setCell ⟨R, 3, none⟩ u4).setCell ⟨R, 4, none⟩ u5) :=
  h _ (((((hS.set _ _).set _ _).set _ _).set _ _).set _ _) ⟨_, _, _, _, _, hR.set _ _ _ _ _⟩
theorem fits_op {o : Int} (h : I64 o) : Fits (mkOp o []) := ⟨h, size_0, i64_0, i64_0⟩
instance (o : Int) : Decidable (I64 o) := by unfold I64; infer_instance
/-- a built slice's row, behind a call and the store of the result -/
theorem row_set {w1 w2 : World} {cs : Array Value} {t : TypeId} (R : Nat) (hb : Below (w1.alloc (.cells cs t)).heap.size (w1.alloc (.cells cs t)) w2) (hR : R < w1.heap.size) {u1 u2 u3 u4 u5 : Value} :
    (((((w2.setCell ⟨R, 0, none⟩ u1).setCell ⟨R, 1, none⟩ u2).setCell ⟨R, 2, none⟩ u3).setCell ⟨R, 3, none⟩ u4).setCell ⟨R, 4, none⟩ u5).heap[w1.heap.size]? = some (.cells cs t (0, 0)) := by
  rw [set5_other _ _ _ (by omega)]
  exact (hb.block _ (by simp)).trans (heap_alloc_new w1 _)
/-- two arguments in a new row -/
theorem two_fin {P : Nat → Prop} {w W : World} {B : Nat} {op val : Int} {f g : Fm} {sl sl' : Value} (_ : Below w.heap.size w W) (hrow : W.heap[B]? = some (.cells #[.int .i64 f.op, .string f.name, .int .i64 f.val, .int .i64 f.bound, sl, .int .i64 g.op, .string g.name, .int .i64 g.val, .int .i64 g.bound, sl'] 24 (0, 0)))
    (hn : w.heap.size ≤ B) (ho : I64 op) (hv : I64 val) (hf : Fits f) (hg : Fits g) (ha : FArgsP (NewP P w W) W sl f.args) (hga : FArgsP (NewP P w W) W sl' g.args) :
    FAtP (NewP P w W) W (.agg #[.int .i64 op, .string ⟨#[]⟩, .int .i64 val, .int .i64 0, .slice (some ⟨B, 0, none⟩) 2 2]) (.mk op ⟨#[]⟩ val 0 [f, g]) :=
  .mk ho size_0 hv i64_0 (args_two (.inr ⟨hn, (Array.getElem?_eq_some_iff.1 hrow).1⟩) hrow hf hg ha hga)
theorem fm2_res {w W0 : World} {a1 a2 a3 a4 a5 b1 b2 b3 b4 b5 : Value} (h : Hid ((w.alloc (.cells #[a1, a2, a3, a4, a5] 24)).alloc (.cells #[b1, b2, b3, b4, b5] 24) = W0)) : Res5 W0 (w.heap.size + 1) := by
  have h2 := heap_alloc_new (w.alloc (.cells #[a1, a2, a3, a4, a5] 24)) (.cells #[b1, b2, b3, b4, b5] 24)
  rw [show (w.alloc (.cells #[a1, a2, a3, a4, a5] 24)).heap.size = w.heap.size + 1 by simp, h.out] at h2
  exact ⟨_, _, _, _, _, h2⟩

set_option maxRecDepth 100000 in
set_option maxHeartbeats 4000000 in
theorem mean_11 (P : Nat → Prop) (f x : Fm) (v : Value) (w : World) (hv : FAtP P w v f) (hP : ∀ b, P b → b < w.heap.size) (hop : f.op = 11) (ha : f.args = [x]) :
    Calls Tryz.prog 110 #[v] w fun e w' => ∃ r, e = .returned r ∧ FAtP (NewP P w w') w' r (.mk 9 ⟨#[]⟩ 0 0 [mkOp 1 [], x]) ∧ Below w.heap.size w w' := by
  obtain ⟨o, c, rfl, hfit, hA⟩ := hv.open
  obtain ⟨b, off, sl, rfl, hb, hc, hfx, hsx⟩ := args_at0 hA ha
  obtain ⟨W0, hW0, hB0, hcf, hcr, hlt⟩ := fm2_open w (.int .i64 f.op) (.string f.name) (.int .i64 f.val) (.int .i64 f.bound) (.slice (some ⟨b, off, none⟩) f.args.length c) (.int .i64 0) (.string ⟨#[]⟩) (.int .i64 0) (.int .i64 0) (.slice none 0 0)
  rw [hop] at hW0 hcf ⊢
  have hres : Hid (Res5 W0 (w.heap.size + 1)) := fm2_res hW0
  obtain ⟨d0, d1, d2, d3, d4⟩ := hcf.out
  rw [Nat.zero_add] at d1 d2 d3 d4
  obtain ⟨x0, x1, x2, x3, x4⟩ := hc.below hB0 (hP b hb)
  have hl1 : f.args.length = 1 := by rw [ha]; rfl
  rw [hl1] at hW0 d4 ⊢
  have hbW : b < W0.heap.size := Nat.lt_of_lt_of_le (hP b hb) hB0.size
  have hbR : b ≠ w.heap.size + 1 := by have := hP b hb; omega
  have hkW : w.heap.size < W0.heap.size := by omega
  have hkR : w.heap.size ≠ w.heap.size + 1 := by omega
  go_enter Tryz.func110, Tryz.ntmps110
  go_wp2_with fail
  rw [hW0.out]
  go_wp2_with fail
  go_region_held3 (fun W => W.cell? ⟨w.heap.size, 4, none⟩ = some (.slice (some ⟨b, off, none⟩) 1 c) ∧ W.cell? ⟨b, off, none⟩ = some (.int .i64 x.op) ∧ W.cell? ⟨b, off + 1, none⟩ = some (.string x.name) ∧ W.cell? ⟨b, off + 2, none⟩ = some (.int .i64 x.val) ∧ W.cell? ⟨b, off + 3, none⟩ = some (.int .i64 x.bound) ∧ W.cell? ⟨b, off + 4, none⟩ = some (sl) ∧ Sv W0 (w.heap.size + 1) W ∧ Res5 W (w.heap.size + 1))
    (first | with_reducible exact ⟨((Sv.refl W0 (w.heap.size + 1)).drew).cell hkW hkR d4, ((Sv.refl W0 (w.heap.size + 1)).drew).cell hbW hbR x0, ((Sv.refl W0 (w.heap.size + 1)).drew).cell hbW hbR x1, ((Sv.refl W0 (w.heap.size + 1)).drew).cell hbW hbR x2, ((Sv.refl W0 (w.heap.size + 1)).drew).cell hbW hbR x3, ((Sv.refl W0 (w.heap.size + 1)).drew).cell hbW hbR x4, ((Sv.refl W0 (w.heap.size + 1)).drew), (res_drew hres.out)⟩ | with_reducible exact ⟨(((Sv.refl W0 (w.heap.size + 1)).alloc _).drew).cell hkW hkR d4, (((Sv.refl W0 (w.heap.size + 1)).alloc _).drew).cell hbW hbR x0, (((Sv.refl W0 (w.heap.size + 1)).alloc _).drew).cell hbW hbR x1, (((Sv.refl W0 (w.heap.size + 1)).alloc _).drew).cell hbW hbR x2, (((Sv.refl W0 (w.heap.size + 1)).alloc _).drew).cell hbW hbR x3, (((Sv.refl W0 (w.heap.size + 1)).alloc _).drew).cell hbW hbR x4, (((Sv.refl W0 (w.heap.size + 1)).alloc _).drew), (res_drew (hres.out.below (below_box _ _)))⟩ | (obtain ⟨-, -, -, -, -, -, q7, q8⟩ : _ ∧ _ ∧ _ ∧ _ ∧ _ ∧ _ ∧ Sv W0 (w.heap.size + 1) _ ∧ Res5 _ _ := (by assumption); with_reducible exact ⟨((q7.next hb9)).cell hkW hkR d4, ((q7.next hb9)).cell hbW hbR x0, ((q7.next hb9)).cell hbW hbR x1, ((q7.next hb9)).cell hbW hbR x2, ((q7.next hb9)).cell hbW hbR x3, ((q7.next hb9)).cell hbW hbR x4, ((q7.next hb9)), (q8.below hb9)⟩) | (obtain ⟨-, -, -, -, -, -, q7, q8⟩ : _ ∧ _ ∧ _ ∧ _ ∧ _ ∧ _ ∧ Sv W0 (w.heap.size + 1) _ ∧ Res5 _ _ := (by assumption); with_reducible exact ⟨((q7.alloc _)).cell hkW hkR d4, ((q7.alloc _)).cell hbW hbR x0, ((q7.alloc _)).cell hbW hbR x1, ((q7.alloc _)).cell hbW hbR x2, ((q7.alloc _)).cell hbW hbR x3, ((q7.alloc _)).cell hbW hbR x4, ((q7.alloc _)), (q8.below (below_box _ _))⟩) | (obtain ⟨-, -, -, -, -, -, q7, q8⟩ : _ ∧ _ ∧ _ ∧ _ ∧ _ ∧ _ ∧ Sv W0 (w.heap.size + 1) _ ∧ Res5 _ _ := (by assumption); with_reducible exact ⟨((((((q7.set 0 _).set 1 _).set 2 _).set 3 _).set 4 _)).cell hkW hkR d4, ((((((q7.set 0 _).set 1 _).set 2 _).set 3 _).set 4 _)).cell hbW hbR x0, ((((((q7.set 0 _).set 1 _).set 2 _).set 3 _).set 4 _)).cell hbW hbR x1, ((((((q7.set 0 _).set 1 _).set 2 _).set 3 _).set 4 _)).cell hbW hbR x2, ((((((q7.set 0 _).set 1 _).set 2 _).set 3 _).set 4 _)).cell hbW hbR x3, ((((((q7.set 0 _).set 1 _).set 2 _).set 3 _).set 4 _)).cell hbW hbR x4, ((((((q7.set 0 _).set 1 _).set 2 _).set 3 _).set 4 _)), (res_set q8 _ _ _ _ _)⟩))
    (first | (obtain ⟨-, -, -, -, -, -, q7, q8⟩ : _ ∧ _ ∧ _ ∧ _ ∧ _ ∧ _ ∧ Sv W0 (w.heap.size + 1) _ ∧ Res5 _ _ := (by assumption); go_at_call 126; (with_reducible refine (compound_val 1 0 _ _ _ _).mono ?_); rintro e w1 ⟨rfl, hb9⟩; have hs1 := hidi (q7.next hb9)) | (obtain ⟨-, -, -, -, -, -, q7, q8⟩ : _ ∧ _ ∧ _ ∧ _ ∧ _ ∧ _ ∧ Sv W0 (w.heap.size + 1) _ ∧ Res5 _ _ := (by assumption); go_at_call 126; (with_reducible refine (compound_val 9 0 _ _ _ _).mono ?_); rintro e w2 ⟨rfl, hb9⟩; have hb2 := hidi hb9; have hr1 := hidi (q8.below hb9); obtain ⟨a1, a2, a3, a4, a5, ⟨z0, z1, z2, z3, z4⟩, y0, y1, y2, y3, y4⟩ := hr1.out.cells))
  go_wp2_with fail
  (try simp only [Exit.inBlock, Exit.then])
  obtain ⟨-, -, -, -, -, -, q7, q8⟩ : _ ∧ _ ∧ _ ∧ _ ∧ _ ∧ _ ∧ Sv W0 (w.heap.size + 1) (World.setCell _ _ _) ∧ Res5 _ _ := (by assumption)
  refine bodyPost_ret (results_cell_row rfl _ _ (w.heap.size + 1) 24 _ (0, 0) _ rfl (hr1.out.set _ _ _ _ _) Tryz.underlying24 rfl fmSize) rfl ?_
  have hBw := q7.below hB0 (Nat.le_succ _)
  have p7 := hs1.out
  exact ⟨_, rfl, two_fin (f := mkOp 1 []) (g := x) hBw (row_set (w.heap.size + 1) hb2.out (by have := p7.size; omega)) (by have := p7.size; omega) (by decide) (by decide) (fits_op (by decide)) hfx (.nil _ _) ((hsx.kept hBw hP).mono fun _ h => .inl h), hBw⟩

set_option maxRecDepth 100000 in
set_option maxHeartbeats 4000000 in
theorem mean_12 (P : Nat → Prop) (f x : Fm) (v : Value) (w : World) (hv : FAtP P w v f) (hP : ∀ b, P b → b < w.heap.size) (hop : f.op = 12) (ha : f.args = [x]) :
    Calls Tryz.prog 110 #[v] w fun e w' => ∃ r, e = .returned r ∧ FAtP (NewP P w w') w' r (.mk 10 ⟨#[]⟩ 0 0 [mkOp 2 [], x]) ∧ Below w.heap.size w w' := by
  obtain ⟨o, c, rfl, hfit, hA⟩ := hv.open
  obtain ⟨b, off, sl, rfl, hb, hc, hfx, hsx⟩ := args_at0 hA ha
  obtain ⟨W0, hW0, hB0, hcf, hcr, hlt⟩ := fm2_open w (.int .i64 f.op) (.string f.name) (.int .i64 f.val) (.int .i64 f.bound) (.slice (some ⟨b, off, none⟩) f.args.length c) (.int .i64 0) (.string ⟨#[]⟩) (.int .i64 0) (.int .i64 0) (.slice none 0 0)
  rw [hop] at hW0 hcf ⊢
  have hres : Hid (Res5 W0 (w.heap.size + 1)) := fm2_res hW0
  obtain ⟨d0, d1, d2, d3, d4⟩ := hcf.out
  rw [Nat.zero_add] at d1 d2 d3 d4
  obtain ⟨x0, x1, x2, x3, x4⟩ := hc.below hB0 (hP b hb)
  have hl1 : f.args.length = 1 := by rw [ha]; rfl
  rw [hl1] at hW0 d4 ⊢
  have hbW : b < W0.heap.size := Nat.lt_of_lt_of_le (hP b hb) hB0.size
  have hbR : b ≠ w.heap.size + 1 := by have := hP b hb; omega
  have hkW : w.heap.size < W0.heap.size := by omega
  have hkR : w.heap.size ≠ w.heap.size + 1 := by omega
  go_enter Tryz.func110, Tryz.ntmps110
  go_wp2_with fail
  rw [hW0.out]
  go_wp2_with fail
  go_region_held3 (fun W => W.cell? ⟨w.heap.size, 4, none⟩ = some (.slice (some ⟨b, off, none⟩) 1 c) ∧ W.cell? ⟨b, off, none⟩ = some (.int .i64 x.op) ∧ W.cell? ⟨b, off + 1, none⟩ = some (.string x.name) ∧ W.cell? ⟨b, off + 2, none⟩ = some (.int .i64 x.val) ∧ W.cell? ⟨b, off + 3, none⟩ = some (.int .i64 x.bound) ∧ W.cell? ⟨b, off + 4, none⟩ = some (sl) ∧ Sv W0 (w.heap.size + 1) W ∧ Res5 W (w.heap.size + 1))
    (first | with_reducible exact ⟨((Sv.refl W0 (w.heap.size + 1)).drew).cell hkW hkR d4, ((Sv.refl W0 (w.heap.size + 1)).drew).cell hbW hbR x0, ((Sv.refl W0 (w.heap.size + 1)).drew).cell hbW hbR x1, ((Sv.refl W0 (w.heap.size + 1)).drew).cell hbW hbR x2, ((Sv.refl W0 (w.heap.size + 1)).drew).cell hbW hbR x3, ((Sv.refl W0 (w.heap.size + 1)).drew).cell hbW hbR x4, ((Sv.refl W0 (w.heap.size + 1)).drew), (res_drew hres.out)⟩ | with_reducible exact ⟨(((Sv.refl W0 (w.heap.size + 1)).alloc _).drew).cell hkW hkR d4, (((Sv.refl W0 (w.heap.size + 1)).alloc _).drew).cell hbW hbR x0, (((Sv.refl W0 (w.heap.size + 1)).alloc _).drew).cell hbW hbR x1, (((Sv.refl W0 (w.heap.size + 1)).alloc _).drew).cell hbW hbR x2, (((Sv.refl W0 (w.heap.size + 1)).alloc _).drew).cell hbW hbR x3, (((Sv.refl W0 (w.heap.size + 1)).alloc _).drew).cell hbW hbR x4, (((Sv.refl W0 (w.heap.size + 1)).alloc _).drew), (res_drew (hres.out.below (below_box _ _)))⟩ | (obtain ⟨-, -, -, -, -, -, q7, q8⟩ : _ ∧ _ ∧ _ ∧ _ ∧ _ ∧ _ ∧ Sv W0 (w.heap.size + 1) _ ∧ Res5 _ _ := (by assumption); with_reducible exact ⟨((q7.next hb9)).cell hkW hkR d4, ((q7.next hb9)).cell hbW hbR x0, ((q7.next hb9)).cell hbW hbR x1, ((q7.next hb9)).cell hbW hbR x2, ((q7.next hb9)).cell hbW hbR x3, ((q7.next hb9)).cell hbW hbR x4, ((q7.next hb9)), (q8.below hb9)⟩) | (obtain ⟨-, -, -, -, -, -, q7, q8⟩ : _ ∧ _ ∧ _ ∧ _ ∧ _ ∧ _ ∧ Sv W0 (w.heap.size + 1) _ ∧ Res5 _ _ := (by assumption); with_reducible exact ⟨((q7.alloc _)).cell hkW hkR d4, ((q7.alloc _)).cell hbW hbR x0, ((q7.alloc _)).cell hbW hbR x1, ((q7.alloc _)).cell hbW hbR x2, ((q7.alloc _)).cell hbW hbR x3, ((q7.alloc _)).cell hbW hbR x4, ((q7.alloc _)), (q8.below (below_box _ _))⟩) | (obtain ⟨-, -, -, -, -, -, q7, q8⟩ : _ ∧ _ ∧ _ ∧ _ ∧ _ ∧ _ ∧ Sv W0 (w.heap.size + 1) _ ∧ Res5 _ _ := (by assumption); with_reducible exact ⟨((((((q7.set 0 _).set 1 _).set 2 _).set 3 _).set 4 _)).cell hkW hkR d4, ((((((q7.set 0 _).set 1 _).set 2 _).set 3 _).set 4 _)).cell hbW hbR x0, ((((((q7.set 0 _).set 1 _).set 2 _).set 3 _).set 4 _)).cell hbW hbR x1, ((((((q7.set 0 _).set 1 _).set 2 _).set 3 _).set 4 _)).cell hbW hbR x2, ((((((q7.set 0 _).set 1 _).set 2 _).set 3 _).set 4 _)).cell hbW hbR x3, ((((((q7.set 0 _).set 1 _).set 2 _).set 3 _).set 4 _)).cell hbW hbR x4, ((((((q7.set 0 _).set 1 _).set 2 _).set 3 _).set 4 _)), (res_set q8 _ _ _ _ _)⟩))
    (first | (obtain ⟨-, -, -, -, -, -, q7, q8⟩ : _ ∧ _ ∧ _ ∧ _ ∧ _ ∧ _ ∧ Sv W0 (w.heap.size + 1) _ ∧ Res5 _ _ := (by assumption); go_at_call 126; (with_reducible refine (compound_val 2 0 _ _ _ _).mono ?_); rintro e w1 ⟨rfl, hb9⟩; have hs1 := hidi (q7.next hb9)) | (obtain ⟨-, -, -, -, -, -, q7, q8⟩ : _ ∧ _ ∧ _ ∧ _ ∧ _ ∧ _ ∧ Sv W0 (w.heap.size + 1) _ ∧ Res5 _ _ := (by assumption); go_at_call 126; (with_reducible refine (compound_val 10 0 _ _ _ _).mono ?_); rintro e w2 ⟨rfl, hb9⟩; have hb2 := hidi hb9; have hr1 := hidi (q8.below hb9); obtain ⟨a1, a2, a3, a4, a5, ⟨z0, z1, z2, z3, z4⟩, y0, y1, y2, y3, y4⟩ := hr1.out.cells))
  go_wp2_with fail
  (try simp only [Exit.inBlock, Exit.then])
  obtain ⟨-, -, -, -, -, -, q7, q8⟩ : _ ∧ _ ∧ _ ∧ _ ∧ _ ∧ _ ∧ Sv W0 (w.heap.size + 1) (World.setCell _ _ _) ∧ Res5 _ _ := (by assumption)
  refine bodyPost_ret (results_cell_row rfl _ _ (w.heap.size + 1) 24 _ (0, 0) _ rfl (hr1.out.set _ _ _ _ _) Tryz.underlying24 rfl fmSize) rfl ?_
  have hBw := q7.below hB0 (Nat.le_succ _)
  have p7 := hs1.out
  exact ⟨_, rfl, two_fin (f := mkOp 2 []) (g := x) hBw (row_set (w.heap.size + 1) hb2.out (by have := p7.size; omega)) (by have := p7.size; omega) (by decide) (by decide) (fits_op (by decide)) hfx (.nil _ _) ((hsx.kept hBw hP).mono fun _ h => .inl h), hBw⟩

set_option maxRecDepth 100000 in
set_option maxHeartbeats 4000000 in
theorem mean_18 (P : Nat → Prop) (f x : Fm) (v : Value) (w : World) (hv : FAtP P w v f) (hP : ∀ b, P b → b < w.heap.size) (hop : f.op = 18) (ha : f.args = [x]) :
    Calls Tryz.prog 110 #[v] w fun e w' => ∃ r, e = .returned r ∧ FAtP (NewP P w w') w' r (.mk 16 ⟨#[]⟩ 0 0 [mkOp 1 [], x]) ∧ Below w.heap.size w w' := by
  obtain ⟨o, c, rfl, hfit, hA⟩ := hv.open
  obtain ⟨b, off, sl, rfl, hb, hc, hfx, hsx⟩ := args_at0 hA ha
  obtain ⟨W0, hW0, hB0, hcf, hcr, hlt⟩ := fm2_open w (.int .i64 f.op) (.string f.name) (.int .i64 f.val) (.int .i64 f.bound) (.slice (some ⟨b, off, none⟩) f.args.length c) (.int .i64 0) (.string ⟨#[]⟩) (.int .i64 0) (.int .i64 0) (.slice none 0 0)
  rw [hop] at hW0 hcf ⊢
  have hres : Hid (Res5 W0 (w.heap.size + 1)) := fm2_res hW0
  obtain ⟨d0, d1, d2, d3, d4⟩ := hcf.out
  rw [Nat.zero_add] at d1 d2 d3 d4
  obtain ⟨x0, x1, x2, x3, x4⟩ := hc.below hB0 (hP b hb)
  have hl1 : f.args.length = 1 := by rw [ha]; rfl
  rw [hl1] at hW0 d4 ⊢
  have hbW : b < W0.heap.size := Nat.lt_of_lt_of_le (hP b hb) hB0.size
  have hbR : b ≠ w.heap.size + 1 := by have := hP b hb; omega
  have hkW : w.heap.size < W0.heap.size := by omega
  have hkR : w.heap.size ≠ w.heap.size + 1 := by omega
  go_enter Tryz.func110, Tryz.ntmps110
  go_wp2_with fail
  rw [hW0.out]
  go_wp2_with fail
  go_region_held3 (fun W => W.cell? ⟨w.heap.size, 4, none⟩ = some (.slice (some ⟨b, off, none⟩) 1 c) ∧ W.cell? ⟨b, off, none⟩ = some (.int .i64 x.op) ∧ W.cell? ⟨b, off + 1, none⟩ = some (.string x.name) ∧ W.cell? ⟨b, off + 2, none⟩ = some (.int .i64 x.val) ∧ W.cell? ⟨b, off + 3, none⟩ = some (.int .i64 x.bound) ∧ W.cell? ⟨b, off + 4, none⟩ = some (sl) ∧ Sv W0 (w.heap.size + 1) W ∧ Res5 W (w.heap.size + 1))
    (first | with_reducible exact ⟨((Sv.refl W0 (w.heap.size + 1)).drew).cell hkW hkR d4, ((Sv.refl W0 (w.heap.size + 1)).drew).cell hbW hbR x0, ((Sv.refl W0 (w.heap.size + 1)).drew).cell hbW hbR x1, ((Sv.refl W0 (w.heap.size + 1)).drew).cell hbW hbR x2, ((Sv.refl W0 (w.heap.size + 1)).drew).cell hbW hbR x3, ((Sv.refl W0 (w.heap.size + 1)).drew).cell hbW hbR x4, ((Sv.refl W0 (w.heap.size + 1)).drew), (res_drew hres.out)⟩ | with_reducible exact ⟨(((Sv.refl W0 (w.heap.size + 1)).alloc _).drew).cell hkW hkR d4, (((Sv.refl W0 (w.heap.size + 1)).alloc _).drew).cell hbW hbR x0, (((Sv.refl W0 (w.heap.size + 1)).alloc _).drew).cell hbW hbR x1, (((Sv.refl W0 (w.heap.size + 1)).alloc _).drew).cell hbW hbR x2, (((Sv.refl W0 (w.heap.size + 1)).alloc _).drew).cell hbW hbR x3, (((Sv.refl W0 (w.heap.size + 1)).alloc _).drew).cell hbW hbR x4, (((Sv.refl W0 (w.heap.size + 1)).alloc _).drew), (res_drew (hres.out.below (below_box _ _)))⟩ | (obtain ⟨-, -, -, -, -, -, q7, q8⟩ : _ ∧ _ ∧ _ ∧ _ ∧ _ ∧ _ ∧ Sv W0 (w.heap.size + 1) _ ∧ Res5 _ _ := (by assumption); with_reducible exact ⟨((q7.next hb9)).cell hkW hkR d4, ((q7.next hb9)).cell hbW hbR x0, ((q7.next hb9)).cell hbW hbR x1, ((q7.next hb9)).cell hbW hbR x2, ((q7.next hb9)).cell hbW hbR x3, ((q7.next hb9)).cell hbW hbR x4, ((q7.next hb9)), (q8.below hb9)⟩) | (obtain ⟨-, -, -, -, -, -, q7, q8⟩ : _ ∧ _ ∧ _ ∧ _ ∧ _ ∧ _ ∧ Sv W0 (w.heap.size + 1) _ ∧ Res5 _ _ := (by assumption); with_reducible exact ⟨((q7.alloc _)).cell hkW hkR d4, ((q7.alloc _)).cell hbW hbR x0, ((q7.alloc _)).cell hbW hbR x1, ((q7.alloc _)).cell hbW hbR x2, ((q7.alloc _)).cell hbW hbR x3, ((q7.alloc _)).cell hbW hbR x4, ((q7.alloc _)), (q8.below (below_box _ _))⟩) | (obtain ⟨-, -, -, -, -, -, q7, q8⟩ : _ ∧ _ ∧ _ ∧ _ ∧ _ ∧ _ ∧ Sv W0 (w.heap.size + 1) _ ∧ Res5 _ _ := (by assumption); with_reducible exact ⟨((((((q7.set 0 _).set 1 _).set 2 _).set 3 _).set 4 _)).cell hkW hkR d4, ((((((q7.set 0 _).set 1 _).set 2 _).set 3 _).set 4 _)).cell hbW hbR x0, ((((((q7.set 0 _).set 1 _).set 2 _).set 3 _).set 4 _)).cell hbW hbR x1, ((((((q7.set 0 _).set 1 _).set 2 _).set 3 _).set 4 _)).cell hbW hbR x2, ((((((q7.set 0 _).set 1 _).set 2 _).set 3 _).set 4 _)).cell hbW hbR x3, ((((((q7.set 0 _).set 1 _).set 2 _).set 3 _).set 4 _)).cell hbW hbR x4, ((((((q7.set 0 _).set 1 _).set 2 _).set 3 _).set 4 _)), (res_set q8 _ _ _ _ _)⟩))
    (first | (obtain ⟨-, -, -, -, -, -, q7, q8⟩ : _ ∧ _ ∧ _ ∧ _ ∧ _ ∧ _ ∧ Sv W0 (w.heap.size + 1) _ ∧ Res5 _ _ := (by assumption); go_at_call 126; (with_reducible refine (compound_val 1 0 _ _ _ _).mono ?_); rintro e w1 ⟨rfl, hb9⟩; have hs1 := hidi (q7.next hb9)) | (obtain ⟨-, -, -, -, -, -, q7, q8⟩ : _ ∧ _ ∧ _ ∧ _ ∧ _ ∧ _ ∧ Sv W0 (w.heap.size + 1) _ ∧ Res5 _ _ := (by assumption); go_at_call 126; (with_reducible refine (compound_val 16 0 _ _ _ _).mono ?_); rintro e w2 ⟨rfl, hb9⟩; have hb2 := hidi hb9; have hr1 := hidi (q8.below hb9); obtain ⟨a1, a2, a3, a4, a5, ⟨z0, z1, z2, z3, z4⟩, y0, y1, y2, y3, y4⟩ := hr1.out.cells))
  go_wp2_with fail
  (try simp only [Exit.inBlock, Exit.then])
  obtain ⟨-, -, -, -, -, -, q7, q8⟩ : _ ∧ _ ∧ _ ∧ _ ∧ _ ∧ _ ∧ Sv W0 (w.heap.size + 1) (World.setCell _ _ _) ∧ Res5 _ _ := (by assumption)
  refine bodyPost_ret (results_cell_row rfl _ _ (w.heap.size + 1) 24 _ (0, 0) _ rfl (hr1.out.set _ _ _ _ _) Tryz.underlying24 rfl fmSize) rfl ?_
  have hBw := q7.below hB0 (Nat.le_succ _)
  have p7 := hs1.out
  exact ⟨_, rfl, two_fin (f := mkOp 1 []) (g := x) hBw (row_set (w.heap.size + 1) hb2.out (by have := p7.size; omega)) (by have := p7.size; omega) (by decide) (by decide) (fits_op (by decide)) hfx (.nil _ _) ((hsx.kept hBw hP).mono fun _ h => .inl h), hBw⟩

set_option maxRecDepth 100000 in
set_option maxHeartbeats 4000000 in
theorem mean_19 (P : Nat → Prop) (f x : Fm) (v : Value) (w : World) (hv : FAtP P w v f) (hP : ∀ b, P b → b < w.heap.size) (hop : f.op = 19) (ha : f.args = [x]) :
    Calls Tryz.prog 110 #[v] w fun e w' => ∃ r, e = .returned r ∧ FAtP (NewP P w w') w' r (.mk 17 ⟨#[]⟩ 1 0 [mkOp 2 [], x]) ∧ Below w.heap.size w w' := by
  obtain ⟨o, c, rfl, hfit, hA⟩ := hv.open
  obtain ⟨b, off, sl, rfl, hb, hc, hfx, hsx⟩ := args_at0 hA ha
  obtain ⟨W0, hW0, hB0, hcf, hcr, hlt⟩ := fm2_open w (.int .i64 f.op) (.string f.name) (.int .i64 f.val) (.int .i64 f.bound) (.slice (some ⟨b, off, none⟩) f.args.length c) (.int .i64 0) (.string ⟨#[]⟩) (.int .i64 0) (.int .i64 0) (.slice none 0 0)
  rw [hop] at hW0 hcf ⊢
  have hres : Hid (Res5 W0 (w.heap.size + 1)) := fm2_res hW0
  obtain ⟨d0, d1, d2, d3, d4⟩ := hcf.out
  rw [Nat.zero_add] at d1 d2 d3 d4
  obtain ⟨x0, x1, x2, x3, x4⟩ := hc.below hB0 (hP b hb)
  have hl1 : f.args.length = 1 := by rw [ha]; rfl
  rw [hl1] at hW0 d4 ⊢
  have hbW : b < W0.heap.size := Nat.lt_of_lt_of_le (hP b hb) hB0.size
  have hbR : b ≠ w.heap.size + 1 := by have := hP b hb; omega
  have hkW : w.heap.size < W0.heap.size := by omega
  have hkR : w.heap.size ≠ w.heap.size + 1 := by omega
  go_enter Tryz.func110, Tryz.ntmps110
  go_wp2_with fail
  rw [hW0.out]
  go_wp2_with fail
  go_region_held3 (fun W => W.cell? ⟨w.heap.size, 4, none⟩ = some (.slice (some ⟨b, off, none⟩) 1 c) ∧ W.cell? ⟨b, off, none⟩ = some (.int .i64 x.op) ∧ W.cell? ⟨b, off + 1, none⟩ = some (.string x.name) ∧ W.cell? ⟨b, off + 2, none⟩ = some (.int .i64 x.val) ∧ W.cell? ⟨b, off + 3, none⟩ = some (.int .i64 x.bound) ∧ W.cell? ⟨b, off + 4, none⟩ = some (sl) ∧ Sv W0 (w.heap.size + 1) W ∧ Res5 W (w.heap.size + 1))
    (first | with_reducible exact ⟨((Sv.refl W0 (w.heap.size + 1)).drew).cell hkW hkR d4, ((Sv.refl W0 (w.heap.size + 1)).drew).cell hbW hbR x0, ((Sv.refl W0 (w.heap.size + 1)).drew).cell hbW hbR x1, ((Sv.refl W0 (w.heap.size + 1)).drew).cell hbW hbR x2, ((Sv.refl W0 (w.heap.size + 1)).drew).cell hbW hbR x3, ((Sv.refl W0 (w.heap.size + 1)).drew).cell hbW hbR x4, ((Sv.refl W0 (w.heap.size + 1)).drew), (res_drew hres.out)⟩ | with_reducible exact ⟨(((Sv.refl W0 (w.heap.size + 1)).alloc _).drew).cell hkW hkR d4, (((Sv.refl W0 (w.heap.size + 1)).alloc _).drew).cell hbW hbR x0, (((Sv.refl W0 (w.heap.size + 1)).alloc _).drew).cell hbW hbR x1, (((Sv.refl W0 (w.heap.size + 1)).alloc _).drew).cell hbW hbR x2, (((Sv.refl W0 (w.heap.size + 1)).alloc _).drew).cell hbW hbR x3, (((Sv.refl W0 (w.heap.size + 1)).alloc _).drew).cell hbW hbR x4, (((Sv.refl W0 (w.heap.size + 1)).alloc _).drew), (res_drew (hres.out.below (below_box _ _)))⟩ | (obtain ⟨-, -, -, -, -, -, q7, q8⟩ : _ ∧ _ ∧ _ ∧ _ ∧ _ ∧ _ ∧ Sv W0 (w.heap.size + 1) _ ∧ Res5 _ _ := (by assumption); with_reducible exact ⟨((q7.next hb9)).cell hkW hkR d4, ((q7.next hb9)).cell hbW hbR x0, ((q7.next hb9)).cell hbW hbR x1, ((q7.next hb9)).cell hbW hbR x2, ((q7.next hb9)).cell hbW hbR x3, ((q7.next hb9)).cell hbW hbR x4, ((q7.next hb9)), (q8.below hb9)⟩) | (obtain ⟨-, -, -, -, -, -, q7, q8⟩ : _ ∧ _ ∧ _ ∧ _ ∧ _ ∧ _ ∧ Sv W0 (w.heap.size + 1) _ ∧ Res5 _ _ := (by assumption); with_reducible exact ⟨((q7.alloc _)).cell hkW hkR d4, ((q7.alloc _)).cell hbW hbR x0, ((q7.alloc _)).cell hbW hbR x1, ((q7.alloc _)).cell hbW hbR x2, ((q7.alloc _)).cell hbW hbR x3, ((q7.alloc _)).cell hbW hbR x4, ((q7.alloc _)), (q8.below (below_box _ _))⟩) | (obtain ⟨-, -, -, -, -, -, q7, q8⟩ : _ ∧ _ ∧ _ ∧ _ ∧ _ ∧ _ ∧ Sv W0 (w.heap.size + 1) _ ∧ Res5 _ _ := (by assumption); with_reducible exact ⟨((((((q7.set 0 _).set 1 _).set 2 _).set 3 _).set 4 _)).cell hkW hkR d4, ((((((q7.set 0 _).set 1 _).set 2 _).set 3 _).set 4 _)).cell hbW hbR x0, ((((((q7.set 0 _).set 1 _).set 2 _).set 3 _).set 4 _)).cell hbW hbR x1, ((((((q7.set 0 _).set 1 _).set 2 _).set 3 _).set 4 _)).cell hbW hbR x2, ((((((q7.set 0 _).set 1 _).set 2 _).set 3 _).set 4 _)).cell hbW hbR x3, ((((((q7.set 0 _).set 1 _).set 2 _).set 3 _).set 4 _)).cell hbW hbR x4, ((((((q7.set 0 _).set 1 _).set 2 _).set 3 _).set 4 _)), (res_set q8 _ _ _ _ _)⟩))
    (first | (obtain ⟨-, -, -, -, -, -, q7, q8⟩ : _ ∧ _ ∧ _ ∧ _ ∧ _ ∧ _ ∧ Sv W0 (w.heap.size + 1) _ ∧ Res5 _ _ := (by assumption); go_at_call 126; (with_reducible refine (compound_val 2 0 _ _ _ _).mono ?_); rintro e w1 ⟨rfl, hb9⟩; have hs1 := hidi (q7.next hb9)) | (obtain ⟨-, -, -, -, -, -, q7, q8⟩ : _ ∧ _ ∧ _ ∧ _ ∧ _ ∧ _ ∧ Sv W0 (w.heap.size + 1) _ ∧ Res5 _ _ := (by assumption); go_at_call 126; (with_reducible refine (compound_val 17 1 _ _ _ _).mono ?_); rintro e w2 ⟨rfl, hb9⟩; have hb2 := hidi hb9; have hr1 := hidi (q8.below hb9); obtain ⟨a1, a2, a3, a4, a5, ⟨z0, z1, z2, z3, z4⟩, y0, y1, y2, y3, y4⟩ := hr1.out.cells))
  go_wp2_with fail
  (try simp only [Exit.inBlock, Exit.then])
  obtain ⟨-, -, -, -, -, -, q7, q8⟩ : _ ∧ _ ∧ _ ∧ _ ∧ _ ∧ _ ∧ Sv W0 (w.heap.size + 1) (World.setCell _ _ _) ∧ Res5 _ _ := (by assumption)
  refine bodyPost_ret (results_cell_row rfl _ _ (w.heap.size + 1) 24 _ (0, 0) _ rfl (hr1.out.set _ _ _ _ _) Tryz.underlying24 rfl fmSize) rfl ?_
  have hBw := q7.below hB0 (Nat.le_succ _)
  have p7 := hs1.out
  exact ⟨_, rfl, two_fin (f := mkOp 2 []) (g := x) hBw (row_set (w.heap.size + 1) hb2.out (by have := p7.size; omega)) (by have := p7.size; omega) (by decide) (by decide) (fits_op (by decide)) hfx (.nil _ _) ((hsx.kept hBw hP).mono fun _ h => .inl h), hBw⟩

end Go.Proofs.YtbnnjbfbifihaaaGreatDoor

/-
  The contract of package formula's meaning at an implication.
-/
namespace Go.Proofs.YtbnnjbfbifihaaaGreatDoor
open Go.RowKit
attribute [local go_sem ↓] Go.wp_at_zero Go.wp_at_succ

theorem row_set1 {W0 w1 w2 : World} {cs cs2 : Array Value} {t t2 : TypeId} (R : Nat) (h1 : Below (W0.alloc (.cells cs t)).drew.heap.size (W0.alloc (.cells cs t)).drew w1) (hb : Below (w1.alloc (.cells cs2 t2)).heap.size (w1.alloc (.cells cs2 t2)) w2) (hR : R < W0.heap.size) (u1 u2 u3 u4 u5 : Value) :
    (((((w2.setCell ⟨R, 0, none⟩ u1).setCell ⟨R, 1, none⟩ u2).setCell ⟨R, 2, none⟩ u3).setCell ⟨R, 3, none⟩ u4).setCell ⟨R, 4, none⟩ u5).heap[W0.heap.size]? = some (.cells cs t (0, 0)) := by
  have hz : W0.heap.size < w1.heap.size := by have := h1.size; simp at this; omega
  rw [set5_other _ _ _ (by omega)]
  exact (hb.block _ (by simp; omega)).trans ((Below.heap_alloc w1 _ _ hz).trans ((h1.block _ (by simp)).trans (heap_alloc_new W0 _)))

set_option maxRecDepth 100000 in
set_option maxHeartbeats 4000000 in
theorem mean_7 (P : Nat → Prop) (f x y : Fm) (v : Value) (w : World) (hv : FAtP P w v f) (hP : ∀ b, P b → b < w.heap.size) (hop : f.op = 7) (ha : f.args = [x, y]) :
    Calls Tryz.prog 110 #[v] w fun e w' => ∃ r, e = .returned r ∧ FAtP (NewP P w w') w' r (mkOp 6 [mkOp 4 [x], y]) ∧ Below w.heap.size w w' := by
  obtain ⟨o, c, rfl, hfit, hA⟩ := hv.open
  obtain ⟨b, off, sl, sk, rfl, hb, hc, hfx, hsx, hcy, hfy, hsy⟩ := args_at1 hA ha
  obtain ⟨W0, hW0, hB0, hcf, hcr, hlt⟩ := fm2_open w (.int .i64 f.op) (.string f.name) (.int .i64 f.val) (.int .i64 f.bound) (.slice (some ⟨b, off, none⟩) f.args.length c) (.int .i64 0) (.string ⟨#[]⟩) (.int .i64 0) (.int .i64 0) (.slice none 0 0)
  rw [hop] at hW0 hcf ⊢
  have hres : Hid (Res5 W0 (w.heap.size + 1)) := fm2_res hW0
  obtain ⟨d0, d1, d2, d3, d4⟩ := hcf.out
  rw [Nat.zero_add] at d1 d2 d3 d4
  obtain ⟨x0, x1, x2, x3, x4⟩ := hc.below hB0 (hP b hb)
  obtain ⟨g0, g1, g2, g3, g4⟩ := hcy.below hB0 (hP b hb)
  have hl1 : f.args.length = 2 := by rw [ha]; rfl
  rw [hl1] at hW0 d4 ⊢
  have hbW : b < W0.heap.size := Nat.lt_of_lt_of_le (hP b hb) hB0.size
  have hbR : b ≠ w.heap.size + 1 := by have := hP b hb; omega
  have hkW : w.heap.size < W0.heap.size := by omega
  have hkR : w.heap.size ≠ w.heap.size + 1 := by omega
  go_enter Tryz.func110, Tryz.ntmps110
  go_wp2_with fail
  rw [hW0.out]
  go_wp2_with fail
  go_region_held3 (fun W => W.cell? ⟨w.heap.size, 4, none⟩ = some (.slice (some ⟨b, off, none⟩) 2 c) ∧ W.cell? ⟨b, off, none⟩ = some (.int .i64 x.op) ∧ W.cell? ⟨b, off + 1, none⟩ = some (.string x.name) ∧ W.cell? ⟨b, off + 2, none⟩ = some (.int .i64 x.val) ∧ W.cell? ⟨b, off + 3, none⟩ = some (.int .i64 x.bound) ∧ W.cell? ⟨b, off + 4, none⟩ = some (sl) ∧ W.cell? ⟨b, off + 5, none⟩ = some (.int .i64 y.op) ∧ W.cell? ⟨b, off + 5 + 1, none⟩ = some (.string y.name) ∧ W.cell? ⟨b, off + 5 + 2, none⟩ = some (.int .i64 y.val) ∧ W.cell? ⟨b, off + 5 + 3, none⟩ = some (.int .i64 y.bound) ∧ W.cell? ⟨b, off + 5 + 4, none⟩ = some (sk) ∧ Sv W0 (w.heap.size + 1) W ∧ Res5 W (w.heap.size + 1))
    (first | with_reducible exact ⟨((Sv.refl W0 (w.heap.size + 1)).drew).cell hkW hkR d4, ((Sv.refl W0 (w.heap.size + 1)).drew).cell hbW hbR x0, ((Sv.refl W0 (w.heap.size + 1)).drew).cell hbW hbR x1, ((Sv.refl W0 (w.heap.size + 1)).drew).cell hbW hbR x2, ((Sv.refl W0 (w.heap.size + 1)).drew).cell hbW hbR x3, ((Sv.refl W0 (w.heap.size + 1)).drew).cell hbW hbR x4, ((Sv.refl W0 (w.heap.size + 1)).drew).cell hbW hbR g0, ((Sv.refl W0 (w.heap.size + 1)).drew).cell hbW hbR g1, ((Sv.refl W0 (w.heap.size + 1)).drew).cell hbW hbR g2, ((Sv.refl W0 (w.heap.size + 1)).drew).cell hbW hbR g3, ((Sv.refl W0 (w.heap.size + 1)).drew).cell hbW hbR g4, ((Sv.refl W0 (w.heap.size + 1)).drew), (res_drew hres.out)⟩ | with_reducible exact ⟨(((Sv.refl W0 (w.heap.size + 1)).alloc _).drew).cell hkW hkR d4, (((Sv.refl W0 (w.heap.size + 1)).alloc _).drew).cell hbW hbR x0, (((Sv.refl W0 (w.heap.size + 1)).alloc _).drew).cell hbW hbR x1, (((Sv.refl W0 (w.heap.size + 1)).alloc _).drew).cell hbW hbR x2, (((Sv.refl W0 (w.heap.size + 1)).alloc _).drew).cell hbW hbR x3, (((Sv.refl W0 (w.heap.size + 1)).alloc _).drew).cell hbW hbR x4, (((Sv.refl W0 (w.heap.size + 1)).alloc _).drew).cell hbW hbR g0, (((Sv.refl W0 (w.heap.size + 1)).alloc _).drew).cell hbW hbR g1, (((Sv.refl W0 (w.heap.size + 1)).alloc _).drew).cell hbW hbR g2, (((Sv.refl W0 (w.heap.size + 1)).alloc _).drew).cell hbW hbR g3, (((Sv.refl W0 (w.heap.size + 1)).alloc _).drew).cell hbW hbR g4, (((Sv.refl W0 (w.heap.size + 1)).alloc _).drew), (res_drew (hres.out.below (below_box _ _)))⟩ | (obtain ⟨-, -, -, -, -, -, -, -, -, -, -, q7, q8⟩ : _ ∧ _ ∧ _ ∧ _ ∧ _ ∧ _ ∧ _ ∧ _ ∧ _ ∧ _ ∧ _ ∧ Sv W0 (w.heap.size + 1) _ ∧ Res5 _ _ := (by assumption); with_reducible exact ⟨((q7.next hb9)).cell hkW hkR d4, ((q7.next hb9)).cell hbW hbR x0, ((q7.next hb9)).cell hbW hbR x1, ((q7.next hb9)).cell hbW hbR x2, ((q7.next hb9)).cell hbW hbR x3, ((q7.next hb9)).cell hbW hbR x4, ((q7.next hb9)).cell hbW hbR g0, ((q7.next hb9)).cell hbW hbR g1, ((q7.next hb9)).cell hbW hbR g2, ((q7.next hb9)).cell hbW hbR g3, ((q7.next hb9)).cell hbW hbR g4, ((q7.next hb9)), (q8.below hb9)⟩) | (obtain ⟨-, -, -, -, -, -, -, -, -, -, -, q7, q8⟩ : _ ∧ _ ∧ _ ∧ _ ∧ _ ∧ _ ∧ _ ∧ _ ∧ _ ∧ _ ∧ _ ∧ Sv W0 (w.heap.size + 1) _ ∧ Res5 _ _ := (by assumption); with_reducible exact ⟨((q7.alloc _)).cell hkW hkR d4, ((q7.alloc _)).cell hbW hbR x0, ((q7.alloc _)).cell hbW hbR x1, ((q7.alloc _)).cell hbW hbR x2, ((q7.alloc _)).cell hbW hbR x3, ((q7.alloc _)).cell hbW hbR x4, ((q7.alloc _)).cell hbW hbR g0, ((q7.alloc _)).cell hbW hbR g1, ((q7.alloc _)).cell hbW hbR g2, ((q7.alloc _)).cell hbW hbR g3, ((q7.alloc _)).cell hbW hbR g4, ((q7.alloc _)), (q8.below (below_box _ _))⟩) | (obtain ⟨-, -, -, -, -, -, -, -, -, -, -, q7, q8⟩ : _ ∧ _ ∧ _ ∧ _ ∧ _ ∧ _ ∧ _ ∧ _ ∧ _ ∧ _ ∧ _ ∧ Sv W0 (w.heap.size + 1) _ ∧ Res5 _ _ := (by assumption); with_reducible exact ⟨((((((q7.set 0 _).set 1 _).set 2 _).set 3 _).set 4 _)).cell hkW hkR d4, ((((((q7.set 0 _).set 1 _).set 2 _).set 3 _).set 4 _)).cell hbW hbR x0, ((((((q7.set 0 _).set 1 _).set 2 _).set 3 _).set 4 _)).cell hbW hbR x1, ((((((q7.set 0 _).set 1 _).set 2 _).set 3 _).set 4 _)).cell hbW hbR x2, ((((((q7.set 0 _).set 1 _).set 2 _).set 3 _).set 4 _)).cell hbW hbR x3, ((((((q7.set 0 _).set 1 _).set 2 _).set 3 _).set 4 _)).cell hbW hbR x4, ((((((q7.set 0 _).set 1 _).set 2 _).set 3 _).set 4 _)).cell hbW hbR g0, ((((((q7.set 0 _).set 1 _).set 2 _).set 3 _).set 4 _)).cell hbW hbR g1, ((((((q7.set 0 _).set 1 _).set 2 _).set 3 _).set 4 _)).cell hbW hbR g2, ((((((q7.set 0 _).set 1 _).set 2 _).set 3 _).set 4 _)).cell hbW hbR g3, ((((((q7.set 0 _).set 1 _).set 2 _).set 3 _).set 4 _)).cell hbW hbR g4, ((((((q7.set 0 _).set 1 _).set 2 _).set 3 _).set 4 _)), (res_set q8 _ _ _ _ _)⟩))
    (first | (obtain ⟨-, -, -, -, -, -, -, -, -, -, -, q7, q8⟩ : _ ∧ _ ∧ _ ∧ _ ∧ _ ∧ _ ∧ _ ∧ _ ∧ _ ∧ _ ∧ _ ∧ Sv W0 (w.heap.size + 1) _ ∧ Res5 _ _ := (by assumption); go_at_call 126; (with_reducible refine (compound_val 4 0 _ _ _ _).mono ?_); rintro e w1 ⟨rfl, hb9⟩; have hs1 := hidi (q7.next hb9); have hb1 := hidi hb9; have hs0 := hidi q7) | (obtain ⟨-, -, -, -, -, -, -, -, -, -, -, q7, q8⟩ : _ ∧ _ ∧ _ ∧ _ ∧ _ ∧ _ ∧ _ ∧ _ ∧ _ ∧ _ ∧ _ ∧ Sv W0 (w.heap.size + 1) _ ∧ Res5 _ _ := (by assumption); go_at_call 126; (with_reducible refine (compound_val 6 0 _ _ _ _).mono ?_); rintro e w2 ⟨rfl, hb9⟩; have hb2 := hidi hb9; have hr1 := hidi (q8.below hb9); obtain ⟨a1, a2, a3, a4, a5, ⟨z0, z1, z2, z3, z4⟩, y0, y1, y2, y3, y4⟩ := hr1.out.cells))
  go_wp2_with fail
  (try simp only [Exit.inBlock, Exit.then])
  obtain ⟨-, -, -, -, -, -, -, -, -, -, -, q7, q8⟩ : _ ∧ _ ∧ _ ∧ _ ∧ _ ∧ _ ∧ _ ∧ _ ∧ _ ∧ _ ∧ _ ∧ Sv W0 (w.heap.size + 1) (World.setCell _ _ _) ∧ Res5 _ _ := (by assumption)
  refine bodyPost_ret (results_cell_row rfl _ _ (w.heap.size + 1) 24 _ (0, 0) _ rfl (hr1.out.set _ _ _ _ _) Tryz.underlying24 rfl fmSize) rfl ?_
  have hBw := q7.below hB0 (Nat.le_succ _)
  have p7 := hs1.out
  have hz := hb1.out.size
  have hz2 : W0.heap.size + 1 ≤ w1.heap.size := by simpa using hz
  have h6 := row_set1 (w.heap.size + 1) hb1.out hb2.out (by omega)
  exact ⟨_, rfl, two_fin (f := mkOp 4 [x]) (g := y) hBw (row_set (w.heap.size + 1) hb2.out (by omega)) (by omega) (by decide) (by decide) (fits_op (by decide)) hfy (args_one (.inr ⟨hB0.size, (Array.getElem?_eq_some_iff.1 (h6 _ _ _ _ _)).1⟩) (h6 _ _ _ _ _) hfx ((hsx.kept hBw hP).mono fun _ h => .inl h)) ((hsy.kept hBw hP).mono fun _ h => .inl h), hBw⟩

end Go.Proofs.YtbnnjbfbifihaaaGreatDoor

/-
  The contracts of package formula's firstTick, and of meaning whole.
-/
namespace Go.Proofs.YtbnnjbfbifihaaaGreatDoor
open Go.RowKit
attribute [local go_sem ↓] Go.wp_at_zero Go.wp_at_succ

set_option maxRecDepth 100000 in
set_option maxHeartbeats 4000000 in
theorem tick_zero (P : Nat → Prop) (op : Int) (f x : Fm) (v : Value) (w : World) (hv : FAtP P w v f) (hP : ∀ b, P b → b < w.heap.size) (hz : f.bound = 0) (ha : f.args = [x]) :
    Calls Tryz.prog 127 #[.int .i64 op, v] w fun e w' => ∃ r, e = .returned r ∧ FAtP (NewP P w w') w' r (x) ∧ Below w.heap.size w w' := by
  obtain ⟨o, c, rfl, hfit, hA⟩ := hv.open
  obtain ⟨b, off, sl, rfl, hb, hc, hfx, hsx⟩ := args_at0 hA ha
  obtain ⟨osl, csl, rfl⟩ := hsx.shape
  obtain ⟨W0, hW0, hB0, hcf, hcr, hlt⟩ := fm2_open w (.int .i64 f.op) (.string f.name) (.int .i64 f.val) (.int .i64 f.bound) (.slice (some ⟨b, off, none⟩) f.args.length c) (.int .i64 0) (.string ⟨#[]⟩) (.int .i64 0) (.int .i64 0) (.slice none 0 0)
  rw [hz] at hW0 hcf ⊢
  have hres : Hid (Res5 W0 (w.heap.size + 1)) := fm2_res hW0
  obtain ⟨d0, d1, d2, d3, d4⟩ := hcf.out
  rw [Nat.zero_add] at d1 d2 d3 d4
  obtain ⟨x0, x1, x2, x3, x4⟩ := hc.below hB0 (hP b hb)
  have hl1 : f.args.length = 1 := by rw [ha]; rfl
  rw [hl1] at hW0 d4 ⊢
  have hbR : b ≠ w.heap.size + 1 := by have := hP b hb; omega
  rw [← hW0.out] at x0 x1 x2 x3 x4
  clear d0 d1 d2 d3 d4
  go_enter Tryz.func127, Tryz.ntmps127
  go_wp2_with fail
  (try simp only [Exit.inBlock, Exit.then])
  refine bodyPost_ret (results_cell_row rfl _ _ (w.heap.size + 1) 24 _ (0, 0) _ rfl (heap_alloc2_new w _ _) Tryz.underlying24 rfl fmSize) rfl ?_
  have hBB : ∀ o1 o2, Below w.heap.size w ((w.alloc o1).alloc o2) := fun o1 o2 => (below_box w o1).alloc (by simp) o2
  exact ⟨_, rfl, ⟨_, rfl, hfx, (hsx.kept (hBB _ _) hP).mono fun _ h => .inl h⟩, hBB _ _⟩

set_option maxRecDepth 100000 in
set_option maxHeartbeats 4000000 in
theorem tick_more (P : Nat → Prop) (op : Int) (f x : Fm) (v : Value) (w : World) (hv : FAtP P w v f) (hP : ∀ b, P b → b < w.heap.size) (hb1' : 1 ≤ f.bound) (hb9' : f.bound ≤ 9) (ho : op = 5 ∨ op = 6) (ha : f.args = [x]) :
    Calls Tryz.prog 127 #[.int .i64 op, v] w fun e w' => ∃ r, e = .returned r ∧ FAtP (NewP P w w') w' r (mkOp op [x, mkOp 8 [.mk f.op ⟨#[]⟩ 0 (f.bound - 1) f.args]]) ∧ Below w.heap.size w w' := by
  obtain ⟨o, c, rfl, hfit, hA⟩ := hv.open
  obtain ⟨b, off, sl, rfl, hb, hc, hfx, hsx⟩ := args_at0 hA ha
  obtain ⟨V0, hV0, hBV, hcf, hcr, hltV⟩ := fm2_open w (.int .i64 f.op) (.string f.name) (.int .i64 f.val) (.int .i64 f.bound) (.slice (some ⟨b, off, none⟩) f.args.length c) (.int .i64 0) (.string ⟨#[]⟩) (.int .i64 0) (.int .i64 0) (.slice none 0 0)
  have hresV : Res5 V0 (w.heap.size + 1) := fm2_res hV0
  have hl1 : f.args.length = 1 := by rw [ha]; rfl
  have hA' := hA
  rw [hl1] at hV0 hcf hA' ⊢
  have hzV : V0.heap.size = w.heap.size + 1 + 1 := by rw [← hV0.out]; simp
  obtain ⟨W0, hW0⟩ : ∃ W0, Hid (V0.alloc (.cells #[.int .i64 f.op, .string ⟨#[]⟩, .int .i64 0, .int .i64 (f.bound - 1), .slice (some ⟨b, off, none⟩) 1 c] 24) = W0) := ⟨_, rfl⟩
  have hBW : Below V0.heap.size V0 W0 := by rw [← hW0.out]; exact below_box _ _
  have hB0 : Below w.heap.size w W0 := hBV.trans (hBW.mono hBV.size)
  have hres : Hid (Res5 W0 (w.heap.size + 1)) := hresV.below hBW
  have hco : Cells5 W0 (w.heap.size + 1 + 1) 0 (.int .i64 f.op) (.string ⟨#[]⟩) (.int .i64 0) (.int .i64 (f.bound - 1)) (.slice (some ⟨b, off, none⟩) 1 c) := by rw [← hW0.out, ← hzV]; exact box5 _ _ _ _ _ _ _
  have hzW : W0.heap.size = w.heap.size + 1 + 1 + 1 := by rw [← hW0.out, World.size_alloc, hzV]
  obtain ⟨o0, o1, o2, o3, o4⟩ := hco
  rw [Nat.zero_add] at o1 o2 o3 o4
  obtain ⟨v0, v1, v2, v3, v4⟩ := hcf.out
  rw [Nat.zero_add] at v1 v2 v3 v4
  have d4 := (hBW.cell (p := ⟨w.heap.size, 4, none⟩) (by show w.heap.size < _; omega)).trans v4
  obtain ⟨x0, x1, x2, x3, x4⟩ := hc.below hB0 (hP b hb)
  have hbW : b < W0.heap.size := Nat.lt_of_lt_of_le (hP b hb) hB0.size
  have hbR : b ≠ w.heap.size + 1 := by have := hP b hb; omega
  have hkW : w.heap.size < W0.heap.size := by omega
  have hkR : w.heap.size ≠ w.heap.size + 1 := by omega
  have hoW : w.heap.size + 1 + 1 < W0.heap.size := by omega
  have hoR : w.heap.size + 1 + 1 ≠ w.heap.size + 1 := by omega
  have hnz : (f.bound == 0) = false := beq_eq_false_iff_ne.2 (by omega)
  have hzV' := hidi hzV
  have hzW' := hidi hzW
  clear hzV hzW hl1
  go_enter Tryz.func127, Tryz.ntmps127
  go_wp2_with fail
  rw [hV0.out]
  go_wp2_with fail
  rw [hW0.out]
  go_region_held3 (fun W => W.cell? ⟨w.heap.size, 4, none⟩ = some (.slice (some ⟨b, off, none⟩) 1 c) ∧ W.cell? ⟨b, off, none⟩ = some (.int .i64 x.op) ∧ W.cell? ⟨b, off + 1, none⟩ = some (.string x.name) ∧ W.cell? ⟨b, off + 2, none⟩ = some (.int .i64 x.val) ∧ W.cell? ⟨b, off + 3, none⟩ = some (.int .i64 x.bound) ∧ W.cell? ⟨b, off + 4, none⟩ = some (sl) ∧ W.cell? ⟨w.heap.size + 1 + 1, 0, none⟩ = some (.int .i64 f.op) ∧ W.cell? ⟨w.heap.size + 1 + 1, 1, none⟩ = some (.string ⟨#[]⟩) ∧ W.cell? ⟨w.heap.size + 1 + 1, 2, none⟩ = some (.int .i64 0) ∧ W.cell? ⟨w.heap.size + 1 + 1, 3, none⟩ = some (.int .i64 (f.bound - 1)) ∧ W.cell? ⟨w.heap.size + 1 + 1, 4, none⟩ = some (.slice (some ⟨b, off, none⟩) 1 c) ∧ Sv W0 (w.heap.size + 1) W ∧ Res5 W (w.heap.size + 1))
    (first | with_reducible exact ⟨((Sv.refl W0 (w.heap.size + 1)).drew).cell hkW hkR d4, ((Sv.refl W0 (w.heap.size + 1)).drew).cell hbW hbR x0, ((Sv.refl W0 (w.heap.size + 1)).drew).cell hbW hbR x1, ((Sv.refl W0 (w.heap.size + 1)).drew).cell hbW hbR x2, ((Sv.refl W0 (w.heap.size + 1)).drew).cell hbW hbR x3, ((Sv.refl W0 (w.heap.size + 1)).drew).cell hbW hbR x4, ((Sv.refl W0 (w.heap.size + 1)).drew).cell hoW hoR o0, ((Sv.refl W0 (w.heap.size + 1)).drew).cell hoW hoR o1, ((Sv.refl W0 (w.heap.size + 1)).drew).cell hoW hoR o2, ((Sv.refl W0 (w.heap.size + 1)).drew).cell hoW hoR o3, ((Sv.refl W0 (w.heap.size + 1)).drew).cell hoW hoR o4, ((Sv.refl W0 (w.heap.size + 1)).drew), (res_drew hres.out)⟩ | with_reducible exact ⟨(((Sv.refl W0 (w.heap.size + 1)).alloc _).drew).cell hkW hkR d4, (((Sv.refl W0 (w.heap.size + 1)).alloc _).drew).cell hbW hbR x0, (((Sv.refl W0 (w.heap.size + 1)).alloc _).drew).cell hbW hbR x1, (((Sv.refl W0 (w.heap.size + 1)).alloc _).drew).cell hbW hbR x2, (((Sv.refl W0 (w.heap.size + 1)).alloc _).drew).cell hbW hbR x3, (((Sv.refl W0 (w.heap.size + 1)).alloc _).drew).cell hbW hbR x4, (((Sv.refl W0 (w.heap.size + 1)).alloc _).drew).cell hoW hoR o0, (((Sv.refl W0 (w.heap.size + 1)).alloc _).drew).cell hoW hoR o1, (((Sv.refl W0 (w.heap.size + 1)).alloc _).drew).cell hoW hoR o2, (((Sv.refl W0 (w.heap.size + 1)).alloc _).drew).cell hoW hoR o3, (((Sv.refl W0 (w.heap.size + 1)).alloc _).drew).cell hoW hoR o4, (((Sv.refl W0 (w.heap.size + 1)).alloc _).drew), (res_drew (hres.out.below (below_box _ _)))⟩ | (obtain ⟨-, -, -, -, -, -, -, -, -, -, -, q7, q8⟩ : _ ∧ _ ∧ _ ∧ _ ∧ _ ∧ _ ∧ _ ∧ _ ∧ _ ∧ _ ∧ _ ∧ Sv W0 (w.heap.size + 1) _ ∧ Res5 _ _ := (by assumption); with_reducible exact ⟨((q7.next hb9)).cell hkW hkR d4, ((q7.next hb9)).cell hbW hbR x0, ((q7.next hb9)).cell hbW hbR x1, ((q7.next hb9)).cell hbW hbR x2, ((q7.next hb9)).cell hbW hbR x3, ((q7.next hb9)).cell hbW hbR x4, ((q7.next hb9)).cell hoW hoR o0, ((q7.next hb9)).cell hoW hoR o1, ((q7.next hb9)).cell hoW hoR o2, ((q7.next hb9)).cell hoW hoR o3, ((q7.next hb9)).cell hoW hoR o4, ((q7.next hb9)), (q8.below hb9)⟩) | (obtain ⟨-, -, -, -, -, -, -, -, -, -, -, q7, q8⟩ : _ ∧ _ ∧ _ ∧ _ ∧ _ ∧ _ ∧ _ ∧ _ ∧ _ ∧ _ ∧ _ ∧ Sv W0 (w.heap.size + 1) _ ∧ Res5 _ _ := (by assumption); with_reducible exact ⟨((q7.alloc _)).cell hkW hkR d4, ((q7.alloc _)).cell hbW hbR x0, ((q7.alloc _)).cell hbW hbR x1, ((q7.alloc _)).cell hbW hbR x2, ((q7.alloc _)).cell hbW hbR x3, ((q7.alloc _)).cell hbW hbR x4, ((q7.alloc _)).cell hoW hoR o0, ((q7.alloc _)).cell hoW hoR o1, ((q7.alloc _)).cell hoW hoR o2, ((q7.alloc _)).cell hoW hoR o3, ((q7.alloc _)).cell hoW hoR o4, ((q7.alloc _)), (q8.below (below_box _ _))⟩) | (obtain ⟨-, -, -, -, -, -, -, -, -, -, -, q7, q8⟩ : _ ∧ _ ∧ _ ∧ _ ∧ _ ∧ _ ∧ _ ∧ _ ∧ _ ∧ _ ∧ _ ∧ Sv W0 (w.heap.size + 1) _ ∧ Res5 _ _ := (by assumption); with_reducible exact ⟨((((((q7.set 0 _).set 1 _).set 2 _).set 3 _).set 4 _)).cell hkW hkR d4, ((((((q7.set 0 _).set 1 _).set 2 _).set 3 _).set 4 _)).cell hbW hbR x0, ((((((q7.set 0 _).set 1 _).set 2 _).set 3 _).set 4 _)).cell hbW hbR x1, ((((((q7.set 0 _).set 1 _).set 2 _).set 3 _).set 4 _)).cell hbW hbR x2, ((((((q7.set 0 _).set 1 _).set 2 _).set 3 _).set 4 _)).cell hbW hbR x3, ((((((q7.set 0 _).set 1 _).set 2 _).set 3 _).set 4 _)).cell hbW hbR x4, ((((((q7.set 0 _).set 1 _).set 2 _).set 3 _).set 4 _)).cell hoW hoR o0, ((((((q7.set 0 _).set 1 _).set 2 _).set 3 _).set 4 _)).cell hoW hoR o1, ((((((q7.set 0 _).set 1 _).set 2 _).set 3 _).set 4 _)).cell hoW hoR o2, ((((((q7.set 0 _).set 1 _).set 2 _).set 3 _).set 4 _)).cell hoW hoR o3, ((((((q7.set 0 _).set 1 _).set 2 _).set 3 _).set 4 _)).cell hoW hoR o4, ((((((q7.set 0 _).set 1 _).set 2 _).set 3 _).set 4 _)), (res_set q8 _ _ _ _ _)⟩))
    (first | (obtain ⟨-, -, -, -, -, -, -, -, -, -, -, q7, q8⟩ : _ ∧ _ ∧ _ ∧ _ ∧ _ ∧ _ ∧ _ ∧ _ ∧ _ ∧ _ ∧ _ ∧ Sv W0 (w.heap.size + 1) _ ∧ Res5 _ _ := (by assumption); go_at_call 126; (with_reducible refine (compound_val 8 0 _ _ _ _).mono ?_); rintro e w1 ⟨rfl, hb9⟩; have hs1 := hidi (q7.next hb9); have hb1 := hidi hb9) | (obtain ⟨-, -, -, -, -, -, -, -, -, -, -, q7, q8⟩ : _ ∧ _ ∧ _ ∧ _ ∧ _ ∧ _ ∧ _ ∧ _ ∧ _ ∧ _ ∧ _ ∧ Sv W0 (w.heap.size + 1) _ ∧ Res5 _ _ := (by assumption); go_at_call 126; (with_reducible refine (compound_val op 0 _ _ _ _).mono ?_); rintro e w2 ⟨rfl, hb9⟩; have hb2 := hidi hb9; have hr1 := hidi (q8.below hb9); obtain ⟨a1, a2, a3, a4, a5, ⟨z0, z1, z2, z3, z4⟩, y0, y1, y2, y3, y4⟩ := hr1.out.cells))
  go_wp2_with fail
  (try simp only [Exit.inBlock, Exit.then])
  obtain ⟨-, -, -, -, -, -, -, -, -, -, -, q7, q8⟩ : _ ∧ _ ∧ _ ∧ _ ∧ _ ∧ _ ∧ _ ∧ _ ∧ _ ∧ _ ∧ _ ∧ Sv W0 (w.heap.size + 1) (World.setCell _ _ _) ∧ Res5 _ _ := (by assumption)
  refine bodyPost_ret (results_cell_row rfl _ _ (w.heap.size + 1) 24 _ (0, 0) _ rfl (hr1.out.set _ _ _ _ _) Tryz.underlying24 rfl fmSize) rfl ?_
  have hBw := q7.below hB0 (Nat.le_succ _)
  have p7 := hs1.out
  have hz := hb1.out.size
  have hz2 : W0.heap.size + 1 ≤ w1.heap.size := by simpa using hz
  have zW := hzW'.out
  have h6 := row_set1 (w.heap.size + 1) hb1.out hb2.out (by omega)
  have hoo : I64 op := by rcases ho with rfl | rfl <;> decide
  have hfo : Fits (.mk f.op ⟨#[]⟩ 0 (f.bound - 1) f.args) := ⟨hfit.1, size_0, i64_0, i64_of (by show _ ≤ f.bound - 1; omega) (by show f.bound - 1 ≤ _; omega)⟩
  exact ⟨_, rfl, two_fin (f := x) (g := mkOp 8 [.mk f.op ⟨#[]⟩ 0 (f.bound - 1) f.args]) hBw (row_set (w.heap.size + 1) hb2.out (by omega)) (by omega) hoo (by decide) hfx (fits_op (by decide)) ((hsx.kept hBw hP).mono fun _ h => .inl h) (args_one (f := .mk f.op ⟨#[]⟩ 0 (f.bound - 1) f.args) (.inr ⟨hB0.size, (Array.getElem?_eq_some_iff.1 (h6 _ _ _ _ _)).1⟩) (h6 _ _ _ _ _) hfo ((hA'.kept hBw hP).mono fun _ h => .inl h)), hBw⟩

end Go.Proofs.YtbnnjbfbifihaaaGreatDoor

/-
  The contract of package formula's meaning, whole.
-/
namespace Go.Proofs.YtbnnjbfbifihaaaGreatDoor
open Go.RowKit

set_option maxRecDepth 100000 in
set_option maxHeartbeats 4000000 in
theorem mean_13_zero (P : Nat → Prop) (f x : Fm) (v : Value) (w : World) (hv : FAtP P w v f) (hP : ∀ b, P b → b < w.heap.size) (hop : f.op = 13) (hz : f.bound = 0) (ha : f.args = [x]) :
    Calls Tryz.prog 110 #[v] w fun e w' => ∃ r, e = .returned r ∧ FAtP (NewP P w w') w' r (x) ∧ Below w.heap.size w w' := by
  obtain ⟨o, c, rfl, hfit, hA⟩ := hv.open
  obtain ⟨W0, hW0, hB0, hcf, hcr, hlt⟩ := fm2_open w (.int .i64 f.op) (.string f.name) (.int .i64 f.val) (.int .i64 f.bound) (.slice o f.args.length c) (.int .i64 0) (.string ⟨#[]⟩) (.int .i64 0) (.int .i64 0) (.slice none 0 0)
  have hvW := hv.kept hB0 hP
  have hPW : ∀ b, P b → b < W0.heap.size := fun b h => Nat.lt_of_lt_of_le (hP b h) hB0.size
  have hres : Hid (Res5 W0 (w.heap.size + 1)) := fm2_res hW0
  have hop' := hidi hop
  rw [hop] at hW0 hcf ⊢
  rw [hop] at hvW
  have ha' := hidi ha
  have hz' := hidi hz
  clear hop ha hz
  go_enter Tryz.func110, Tryz.ntmps110
  go_wp2_with (go_at_call 127; rw [hW0.out]; refine (tick_zero P 6 f x _ _ hvW hPW hz'.out ha'.out).mono ?_; rintro e w1 ⟨r1, rfl, hN, hb1⟩; obtain ⟨o1, c1, rfl, -, -⟩ := hN.open; have hr1 := hidi (hres.out.below hb1); obtain ⟨a1, a2, a3, a4, a5, ⟨z0, z1, z2, z3, z4⟩, y0, y1, y2, y3, y4⟩ := hr1.out.cells)
  (try simp only [Exit.inBlock, Exit.then])
  refine bodyPost_ret (results_cell_row rfl _ _ (w.heap.size + 1) 24 _ (0, 0) _ rfl (hr1.out.set _ _ _ _ _) Tryz.underlying24 rfl fmSize) rfl ?_
  skip
  refine ⟨_, rfl, fm_put (Nat.le_succ _) (hB0.trans (hb1.mono hB0.size)) hN (fun b h => ?_) (fun b h => ?_) _ _ _ _ _⟩
  · rcases h with h | ⟨h1, -⟩
    · have := hP b h; omega
    · omega
  · rcases h with h | ⟨h1, h2⟩
    · exact .inl h
    · exact .inr ⟨Nat.le_trans hB0.size h1, h2⟩

set_option maxRecDepth 100000 in
set_option maxHeartbeats 4000000 in
theorem mean_13_more (P : Nat → Prop) (f x : Fm) (v : Value) (w : World) (hv : FAtP P w v f) (hP : ∀ b, P b → b < w.heap.size) (hop : f.op = 13) (h1 : 1 ≤ f.bound) (h9 : f.bound ≤ 9) (ha : f.args = [x]) :
    Calls Tryz.prog 110 #[v] w fun e w' => ∃ r, e = .returned r ∧ FAtP (NewP P w w') w' r (mkOp 6 [x, mkOp 8 [.mk 13 ⟨#[]⟩ 0 (f.bound - 1) f.args]]) ∧ Below w.heap.size w w' := by
  obtain ⟨o, c, rfl, hfit, hA⟩ := hv.open
  obtain ⟨W0, hW0, hB0, hcf, hcr, hlt⟩ := fm2_open w (.int .i64 f.op) (.string f.name) (.int .i64 f.val) (.int .i64 f.bound) (.slice o f.args.length c) (.int .i64 0) (.string ⟨#[]⟩) (.int .i64 0) (.int .i64 0) (.slice none 0 0)
  have hvW := hv.kept hB0 hP
  have hPW : ∀ b, P b → b < W0.heap.size := fun b h => Nat.lt_of_lt_of_le (hP b h) hB0.size
  have hres : Hid (Res5 W0 (w.heap.size + 1)) := fm2_res hW0
  have hop' := hidi hop
  rw [hop] at hW0 hcf ⊢
  rw [hop] at hvW
  have ha' := hidi ha
  skip
  clear hop ha
  go_enter Tryz.func110, Tryz.ntmps110
  go_wp2_with (go_at_call 127; rw [hW0.out]; refine (tick_more P 6 f x _ _ hvW hPW h1 h9 (by omega) ha'.out).mono ?_; rintro e w1 ⟨r1, rfl, hN, hb1⟩; obtain ⟨o1, c1, rfl, -, -⟩ := hN.open; have hr1 := hidi (hres.out.below hb1); obtain ⟨a1, a2, a3, a4, a5, ⟨z0, z1, z2, z3, z4⟩, y0, y1, y2, y3, y4⟩ := hr1.out.cells)
  (try simp only [Exit.inBlock, Exit.then])
  refine bodyPost_ret (results_cell_row rfl _ _ (w.heap.size + 1) 24 _ (0, 0) _ rfl (hr1.out.set _ _ _ _ _) Tryz.underlying24 rfl fmSize) rfl ?_
  rw [hop'.out] at hN
  refine ⟨_, rfl, fm_put (Nat.le_succ _) (hB0.trans (hb1.mono hB0.size)) hN (fun b h => ?_) (fun b h => ?_) _ _ _ _ _⟩
  · rcases h with h | ⟨h1, -⟩
    · have := hP b h; omega
    · omega
  · rcases h with h | ⟨h1, h2⟩
    · exact .inl h
    · exact .inr ⟨Nat.le_trans hB0.size h1, h2⟩

set_option maxRecDepth 100000 in
set_option maxHeartbeats 4000000 in
theorem mean_14_zero (P : Nat → Prop) (f x : Fm) (v : Value) (w : World) (hv : FAtP P w v f) (hP : ∀ b, P b → b < w.heap.size) (hop : f.op = 14) (hz : f.bound = 0) (ha : f.args = [x]) :
    Calls Tryz.prog 110 #[v] w fun e w' => ∃ r, e = .returned r ∧ FAtP (NewP P w w') w' r (x) ∧ Below w.heap.size w w' := by
  obtain ⟨o, c, rfl, hfit, hA⟩ := hv.open
  obtain ⟨W0, hW0, hB0, hcf, hcr, hlt⟩ := fm2_open w (.int .i64 f.op) (.string f.name) (.int .i64 f.val) (.int .i64 f.bound) (.slice o f.args.length c) (.int .i64 0) (.string ⟨#[]⟩) (.int .i64 0) (.int .i64 0) (.slice none 0 0)
  have hvW := hv.kept hB0 hP
  have hPW : ∀ b, P b → b < W0.heap.size := fun b h => Nat.lt_of_lt_of_le (hP b h) hB0.size
  have hres : Hid (Res5 W0 (w.heap.size + 1)) := fm2_res hW0
  have hop' := hidi hop
  rw [hop] at hW0 hcf ⊢
  rw [hop] at hvW
  have ha' := hidi ha
  have hz' := hidi hz
  clear hop ha hz
  go_enter Tryz.func110, Tryz.ntmps110
  go_wp2_with (go_at_call 127; rw [hW0.out]; refine (tick_zero P 5 f x _ _ hvW hPW hz'.out ha'.out).mono ?_; rintro e w1 ⟨r1, rfl, hN, hb1⟩; obtain ⟨o1, c1, rfl, -, -⟩ := hN.open; have hr1 := hidi (hres.out.below hb1); obtain ⟨a1, a2, a3, a4, a5, ⟨z0, z1, z2, z3, z4⟩, y0, y1, y2, y3, y4⟩ := hr1.out.cells)
  (try simp only [Exit.inBlock, Exit.then])
  refine bodyPost_ret (results_cell_row rfl _ _ (w.heap.size + 1) 24 _ (0, 0) _ rfl (hr1.out.set _ _ _ _ _) Tryz.underlying24 rfl fmSize) rfl ?_
  skip
  refine ⟨_, rfl, fm_put (Nat.le_succ _) (hB0.trans (hb1.mono hB0.size)) hN (fun b h => ?_) (fun b h => ?_) _ _ _ _ _⟩
  · rcases h with h | ⟨h1, -⟩
    · have := hP b h; omega
    · omega
  · rcases h with h | ⟨h1, h2⟩
    · exact .inl h
    · exact .inr ⟨Nat.le_trans hB0.size h1, h2⟩

set_option maxRecDepth 100000 in
set_option maxHeartbeats 4000000 in
theorem mean_14_more (P : Nat → Prop) (f x : Fm) (v : Value) (w : World) (hv : FAtP P w v f) (hP : ∀ b, P b → b < w.heap.size) (hop : f.op = 14) (h1 : 1 ≤ f.bound) (h9 : f.bound ≤ 9) (ha : f.args = [x]) :
    Calls Tryz.prog 110 #[v] w fun e w' => ∃ r, e = .returned r ∧ FAtP (NewP P w w') w' r (mkOp 5 [x, mkOp 8 [.mk 14 ⟨#[]⟩ 0 (f.bound - 1) f.args]]) ∧ Below w.heap.size w w' := by
  obtain ⟨o, c, rfl, hfit, hA⟩ := hv.open
  obtain ⟨W0, hW0, hB0, hcf, hcr, hlt⟩ := fm2_open w (.int .i64 f.op) (.string f.name) (.int .i64 f.val) (.int .i64 f.bound) (.slice o f.args.length c) (.int .i64 0) (.string ⟨#[]⟩) (.int .i64 0) (.int .i64 0) (.slice none 0 0)
  have hvW := hv.kept hB0 hP
  have hPW : ∀ b, P b → b < W0.heap.size := fun b h => Nat.lt_of_lt_of_le (hP b h) hB0.size
  have hres : Hid (Res5 W0 (w.heap.size + 1)) := fm2_res hW0
  have hop' := hidi hop
  rw [hop] at hW0 hcf ⊢
  rw [hop] at hvW
  have ha' := hidi ha
  skip
  clear hop ha
  go_enter Tryz.func110, Tryz.ntmps110
  go_wp2_with (go_at_call 127; rw [hW0.out]; refine (tick_more P 5 f x _ _ hvW hPW h1 h9 (by omega) ha'.out).mono ?_; rintro e w1 ⟨r1, rfl, hN, hb1⟩; obtain ⟨o1, c1, rfl, -, -⟩ := hN.open; have hr1 := hidi (hres.out.below hb1); obtain ⟨a1, a2, a3, a4, a5, ⟨z0, z1, z2, z3, z4⟩, y0, y1, y2, y3, y4⟩ := hr1.out.cells)
  (try simp only [Exit.inBlock, Exit.then])
  refine bodyPost_ret (results_cell_row rfl _ _ (w.heap.size + 1) 24 _ (0, 0) _ rfl (hr1.out.set _ _ _ _ _) Tryz.underlying24 rfl fmSize) rfl ?_
  rw [hop'.out] at hN
  refine ⟨_, rfl, fm_put (Nat.le_succ _) (hB0.trans (hb1.mono hB0.size)) hN (fun b h => ?_) (fun b h => ?_) _ _ _ _ _⟩
  · rcases h with h | ⟨h1, -⟩
    · have := hP b h; omega
    · omega
  · rcases h with h | ⟨h1, h2⟩
    · exact .inl h
    · exact .inr ⟨Nat.le_trans hB0.size h1, h2⟩

theorem meaning_any (P : Nat → Prop) (f : Fm) (v : Value) (w : World) (hv : FAtP P w v f) (hP : ∀ b, P b → b < w.heap.size) (hn : nodeB f = true) (h : saidOp f.op) :
    Calls Tryz.prog 110 #[v] w fun e w' => ∃ r, e = .returned r ∧ FAtP (NewP P w w') w' r (meanF f) ∧ Below w.heap.size w w' := by
  obtain ⟨h1, h2, h3, h4, h5, h6, h7⟩ := nodeB_flds hn
  rcases h with h | h | h | h | h | h | h
  · obtain ⟨x, y, ha⟩ := args_two_of hn (by rw [h]; rfl) (by rw [h]; rfl)
    rw [show meanF f = mkOp 6 [mkOp 4 [x], y] by simp [meanF, h, ha]]
    exact mean_7 P f x y v w hv hP h ha
  · obtain ⟨x, ha⟩ := said_one hn (by omega)
    rw [show meanF f = mkOp 9 [mkOp 1 [], x] by simp [meanF, h, ha]]
    exact mean_11 P f x v w hv hP h ha
  · obtain ⟨x, ha⟩ := said_one hn (by omega)
    rw [show meanF f = mkOp 10 [mkOp 2 [], x] by simp [meanF, h, ha]]
    exact mean_12 P f x v w hv hP h ha
  · obtain ⟨x, ha⟩ := said_one hn (by omega)
    have h9 : f.bound ≤ 9 := by rw [h] at h5; exact h5
    by_cases hb : f.bound = 0
    · rw [show meanF f = x by simp [meanF, h, ha, hb]]
      exact mean_13_zero P f x v w hv hP h hb ha
    · rw [show meanF f = mkOp 6 [x, mkOp 8 [.mk 13 ⟨#[]⟩ 0 (f.bound - 1) f.args]] by simp [meanF, h, ha, hb]]
      exact mean_13_more P f x v w hv hP h (by omega) h9 ha
  · obtain ⟨x, ha⟩ := said_one hn (by omega)
    have h9 : f.bound ≤ 9 := by rw [h] at h5; exact h5
    by_cases hb : f.bound = 0
    · rw [show meanF f = x by simp [meanF, h, ha, hb]]
      exact mean_14_zero P f x v w hv hP h hb ha
    · rw [show meanF f = mkOp 5 [x, mkOp 8 [.mk 14 ⟨#[]⟩ 0 (f.bound - 1) f.args]] by simp [meanF, h, ha, hb]]
      exact mean_14_more P f x v w hv hP h (by omega) h9 ha
  · obtain ⟨x, ha⟩ := said_one hn (by omega)
    rw [show meanF f = .mk 16 ⟨#[]⟩ 0 0 [mkOp 1 [], x] by simp [meanF, h, ha, mkLate]]
    exact mean_18 P f x v w hv hP h ha
  · obtain ⟨x, ha⟩ := said_one hn (by omega)
    rw [show meanF f = .mk 17 ⟨#[]⟩ 1 0 [mkOp 2 [], x] by simp [meanF, h, ha, mkLate]]
    exact mean_19 P f x v w hv hP h ha

end Go.Proofs.YtbnnjbfbifihaaaGreatDoor

/-
  The contract of package formula's unfold.
-/
namespace Go.Proofs.YtbnnjbfbifihaaaGreatDoor
open Go.RowKit

theorem results_cell_tmp {fn : Func} {p q : Tmp} (h : fn.results = #[.cell p 24, .tmp q]) (tmps : Array Value) (w : World) (g : Nat) (t : TypeId) (cs : Array Value) (fr : Nat × Nat) (u : Value)
    (hp : tmps.getD p undef = .pointer (some ⟨g, 0, none⟩)) (hq : tmps.getD q undef = u) (hg : w.heap[g]? = some (.cells cs t fr)) (hi : cs.size = 5) :
    (results fn tmps).run Tryz.prog w = .ok (.tuple #[.agg cs, u]) w := by
  have hp' : tmps[p]?.getD undef = .pointer (some ⟨g, 0, none⟩) := by simpa using hp
  have hq' : tmps[q]?.getD undef = u := by simpa using hq
  have hl := run_loadVar_row (P := Tryz.prog) w g t 24 cs fr _ hg Tryz.underlying24 rfl (by rw [hi]; exact fmSize)
  simp [results, h, hp', hq', asAddr, hl]
/-- the box is written anew: what counts stays -/
theorem box_put {P : Nat → Prop} {w W0 wr : World} (hP : ∀ b, P b → b < w.heap.size) (hW : w.heap.size + 1 < W0.heap.size) (hB : Below w.heap.size w wr) (hz : W0.heap.size ≤ wr.heap.size) (hr : Res5 wr (w.heap.size + 1)) (u1 u2 u3 u4 u5 : Value) :
    (∀ (s : Value) (l : List Fm), FArgsP (fun b => P b ∨ (W0.heap.size ≤ b ∧ b < wr.heap.size)) wr s l → FArgsP (fun b => P b ∨ (W0.heap.size ≤ b ∧ b < (((((wr.setCell ⟨w.heap.size, 0, none⟩ u1).setCell ⟨w.heap.size, 1, none⟩ u2).setCell ⟨w.heap.size, 2, none⟩ u3).setCell ⟨w.heap.size, 3, none⟩ u4).setCell ⟨w.heap.size, 4, none⟩ u5).heap.size)) (((((wr.setCell ⟨w.heap.size, 0, none⟩ u1).setCell ⟨w.heap.size, 1, none⟩ u2).setCell ⟨w.heap.size, 2, none⟩ u3).setCell ⟨w.heap.size, 3, none⟩ u4).setCell ⟨w.heap.size, 4, none⟩ u5) s l) ∧
    Res5 (((((wr.setCell ⟨w.heap.size, 0, none⟩ u1).setCell ⟨w.heap.size, 1, none⟩ u2).setCell ⟨w.heap.size, 2, none⟩ u3).setCell ⟨w.heap.size, 3, none⟩ u4).setCell ⟨w.heap.size, 4, none⟩ u5) (w.heap.size + 1) ∧
    Below w.heap.size w (((((wr.setCell ⟨w.heap.size, 0, none⟩ u1).setCell ⟨w.heap.size, 1, none⟩ u2).setCell ⟨w.heap.size, 2, none⟩ u3).setCell ⟨w.heap.size, 3, none⟩ u4).setCell ⟨w.heap.size, 4, none⟩ u5) ∧
    W0.heap.size ≤ (((((wr.setCell ⟨w.heap.size, 0, none⟩ u1).setCell ⟨w.heap.size, 1, none⟩ u2).setCell ⟨w.heap.size, 2, none⟩ u3).setCell ⟨w.heap.size, 3, none⟩ u4).setCell ⟨w.heap.size, 4, none⟩ u5).heap.size := by
  refine ⟨fun s l h => ?_, ?_, set5_below hB (Nat.le_refl _) _ _ _ _ _, by rw [set5_size]; exact hz⟩
  · refine (h.same fun b hb => set5_other wr _ b ?_ _ _ _ _ _).mono fun b hb => ?_
    · rcases hb with hb | ⟨h1, -⟩
      · have := hP b hb; omega
      · omega
    · rw [set5_size]; exact hb
  · obtain ⟨a1, a2, a3, a4, a5, h⟩ := hr
    exact ⟨a1, a2, a3, a4, a5, by rw [set5_other _ _ _ (by omega)]; exact h⟩

/-- what unfold leaves -/
def UnfPost (P : Nat → Prop) (f : Fm) (neg : Bool) (w : World) (e : Ending) (w' : World) : Prop :=
  ∃ (r : Value) (g : Fm) (b : Bool), e = .returned (.tuple #[r, .bool b]) ∧ FAtP (NewP P w w') w' r g ∧ nodesB g = true ∧ plainOp g.op ∧ formP f neg = formP g b ∧ Below w.heap.size w w'

/-- blocks that unfold's formula may lie in: P's, and those made behind W0 -/
def NewQ (P : Nat → Prop) (W0 W : World) (b : Nat) : Prop := P b ∨ (W0.heap.size ≤ b ∧ b < W.heap.size)

set_option maxRecDepth 100000 in
set_option maxHeartbeats 8000000 in
theorem unfold_any (P : Nat → Prop) (f : Fm) (neg : Bool) (v : Value) (w : World) (hE : Env w) (hv : FAtP P w v f) (hP : ∀ b, P b → b < w.heap.size) (hn : nodesB f = true) :
    Calls Tryz.prog 92 #[v, .bool neg] w (UnfPost P f neg w) := by
  obtain ⟨o, c, rfl, hfit, hA⟩ := hv.open
  obtain ⟨W0, hW0, hB0, hcf, hcr, hlt⟩ := fm2_open w (.int .i64 f.op) (.string f.name) (.int .i64 f.val) (.int .i64 f.bound) (.slice o f.args.length c) (.int .i64 0) (.string ⟨#[]⟩) (.int .i64 0) (.int .i64 0) (.slice none 0 0)
  have hres : Res5 W0 (w.heap.size + 1) := fm2_res hW0
  have hbox : W0.heap[w.heap.size]? = some (.cells #[.int .i64 f.op, .string f.name, .int .i64 f.val, .int .i64 f.bound, .slice o f.args.length c] 24 (0, 0)) := by
    rw [← hW0.out, Below.heap_alloc _ _ _ (by simp)]; exact heap_alloc_new w _
  have hA0 : FArgsP (NewQ P W0 W0) W0 (.slice o f.args.length c) f.args := (hA.kept hB0 hP).mono fun _ h => .inl h
  have hres' := hidi hres
  have hbox' := hidi hbox
  clear hres hbox
  go_enter Tryz.func92, Tryz.ntmps92
  go_wp2_with fail
  rw [hW0.out]
  go_loopg [1] (farF f) (fun k nv wr => ∃ (g : Fm) (b : Bool) (og : Option Addr) (cg : Nat), nv = .bool b ∧ Hid (farF g = k) ∧ Hid (wr.heap[w.heap.size]? = some (.cells #[.int .i64 g.op, .string g.name, .int .i64 g.val, .int .i64 g.bound, .slice og g.args.length cg] 24 (0, 0))) ∧ Hid (Res5 wr (w.heap.size + 1)) ∧ Fits g ∧ FArgsP (NewQ P W0 wr) wr (.slice og g.args.length cg) g.args ∧ nodesB g = true ∧ Hid (formP f neg = formP g b) ∧ Below w.heap.size w wr ∧ W0.heap.size ≤ wr.heap.size)
  case atStart => exact ⟨f, neg, o, c, rfl, rfl, hbox', hres', hfit, hA0, hn, rfl, hB0, Nat.le_refl _⟩
  case round =>
    obtain ⟨g, b, og, cg, rfl, hk, hb5, hr5, hfg, hAg, hng, hF, hB, hz⟩ := hrel
    have hg0 := nodesB_self hng
    obtain ⟨h1, h2⟩ := nodeB_known hg0
    obtain ⟨op, hop⟩ : ∃ op, g.op = op := ⟨_, rfl⟩
    rw [hop] at h1 h2
    obtain ⟨kk, rfl⟩ := Int.eq_ofNat_of_zero_le (show 0 ≤ op by omega)
    have hk2 : kk < 20 := by omega
    obtain ⟨-, -, -, -, -, -, r6⟩ := (hE.low hE.pos hB).row kk hk2
    have d0 := cell_of_row wr w.heap.size 0 _ _ _ hb5.out
    have d1 := cell_of_row wr w.heap.size 1 _ _ _ hb5.out
    have d2 := cell_of_row wr w.heap.size 2 _ _ _ hb5.out
    have d3 := cell_of_row wr w.heap.size 3 _ _ _ hb5.out
    have d4 := cell_of_row wr w.heap.size 4 _ _ _ hb5.out
    simp only [List.getElem?_toArray, List.getElem?_cons_zero, List.getElem?_cons_succ] at d0 d1 d2 d3 d4
    rw [hop] at d0
    have hbs : Res5 wr w.heap.size := ⟨_, _, _, _, _, hb5.out⟩
    obtain ⟨-, -, -, -, -, -, y0, y1, y2, y3, y4⟩ := hbs.cells
    have g1 : (0 : Int) ≤ (kk : Int) := by omega
    have g2 : (kk : Int) < 20 := by omega
    have hbs' := hidi hbs
    clear hbs
    rcases op_parts (o := (kk : Int)) ⟨by omega, by omega⟩ with hp | h4 | hs
    · have h4f : ((kk : Int) == 4) = false := beq_eq_false_iff_ne.2 (by unfold plainOp at hp; omega)
      have hdu := ((plain_dual (o := (kk : Int)) ⟨by omega, by omega⟩).1 hp).2
      rw [Int.toNat_natCast] at hdu
      obtain ⟨du, hdu2⟩ : ∃ du, fDual kk = du := ⟨_, rfl⟩
      rw [hdu2] at r6 hdu
      have hdf : (du == 0) = false := beq_eq_false_iff_ne.2 hdu
      have hpl : Hid (plainOp g.op) := by unfold Hid; rw [hop]; exact hp
      obtain ⟨-, -, -, -, -, -, z0, z1, z2, z3, z4⟩ := hr5.out.cells
      obtain ⟨e1, e2, e3, e4, e5, ⟨t0, t1, t2, t3, t4⟩, -⟩ := hr5.out.cells
      have hop' := hidi hop
      clear hop hdu2 hdu hp
      go_wp2_with fail
      (try simp only [Exit.inBlock, Exit.then])
      refine bodyPost_ret (results_cell_tmp rfl _ _ (w.heap.size + 1) 24 _ (0, 0) (.bool b) rfl rfl (hr5.out.set _ _ _ _ _) rfl) rfl ?_
      have hFg : FAtP (NewQ P W0 wr) wr (.agg #[.int .i64 (kk : Int), .string g.name, .int .i64 g.val, .int .i64 g.bound, .slice og g.args.length cg]) g := ⟨_, by rw [fval, hop'.out], hfg, hAg⟩
      have hQR : ∀ c, NewQ P W0 wr c → c ≠ w.heap.size + 1 := by
        intro c h
        rcases h with h | ⟨h, -⟩
        · have := hP c h; omega
        · omega
      have hQN : ∀ c, NewQ P W0 wr c → NewP P w wr c := by
        intro c h
        rcases h with h | ⟨h, h'⟩
        · exact .inl h
        · exact .inr ⟨by omega, h'⟩
      have hput := fm_put (P := P) (Nat.le_succ _) hB hFg hQR hQN
      exact ⟨_, g, b, rfl, (hput _ _ _ _ _).1, hng, hpl.out, hF.out, (hput _ _ _ _ _).2⟩
    · have h4t : ((kk : Int) == 4) = true := by rw [h4]; rfl
      obtain ⟨x, hax⟩ := args_one_of hg0 (by rw [hop, h4]; rfl) (by rw [hop, h4]; rfl)
      obtain ⟨bx, off, sl, rfl, hbx, hcx, hfx, hsx⟩ := args_at0 hAg hax
      obtain ⟨osl, csl, rfl⟩ := hsx.shape
      obtain ⟨x0, x1, x2, x3, x4⟩ := hcx
      have hl1 : g.args.length = 1 := by rw [hax]; rfl
      rw [hl1] at d4
      have hS := box_put hP hlt hB hz hr5.out (.int .i64 x.op) (.string x.name) (.int .i64 x.val) (.int .i64 x.bound) (.slice osl x.args.length csl)
      have hS' := hidi hS
      have hFx : Hid (formP f neg = formP x (!b)) := by unfold Hid; rw [hF.out]; exact form_not (by rw [hop, h4]) hax b
      have hnx : nodesB x = true := nodesB_arg hng (by rw [hax]; simp)
      have hfar : Hid (farF x < gk) := by
        unfold Hid
        rw [← hk.out, far_pos (f := g) (by rw [hop, h4]; unfold plainOp; omega), g.nodes_eq, hax, Fm.nodesL_cons]
        have := far_le x
        omega
      have hbw := hidi (hbs'.out.set (.int .i64 x.op) (.string x.name) (.int .i64 x.val) (.int .i64 x.bound) (.slice osl x.args.length csl))
      clear hS hax hl1 h4 hop
      go_wp2_with fail
      go_roundg (farF x)
      case measure => exact hfar.out
      case rel =>
        obtain ⟨s1, s2, s3, s4⟩ := hS'.out
        exact ⟨x, !b, osl, csl, rfl, rfl, hbw.out, s2, hfx, s1 _ _ hsx, hnx, hFx, s3, s4⟩
    · have h4f : ((kk : Int) == 4) = false := beq_eq_false_iff_ne.2 (by unfold saidOp at hs; omega)
      have hdu := (said_dual hs).1
      rw [Int.toNat_natCast] at hdu
      rw [hdu] at r6
      have hvW : FAtP (NewQ P W0 wr) wr (.agg #[.int .i64 (kk : Int), .string g.name, .int .i64 g.val, .int .i64 g.bound, .slice og g.args.length cg]) g := ⟨_, by rw [fval, hop], hfg, hAg⟩
      have hPW : ∀ c, NewQ P W0 wr c → c < wr.heap.size := by
        intro c h
        rcases h with h | ⟨-, h⟩
        · have := hP c h; omega
        · exact h
      have hsg : Hid (saidOp g.op) := by unfold Hid; rw [hop]; exact hs
      obtain ⟨hm1, hm2⟩ := mean_ok hng hsg.out
      have hfar : Hid (farF (meanF g) < gk) := by unfold Hid; rw [← hk.out]; exact hm2
      have hFm : Hid (formP f neg = formP (meanF g) b) := by unfold Hid; rw [mean_form hg0 hsg.out]; exact hF.out
      clear hm2 hop hdu hs
      go_wp2_with (go_at_call 110; refine (meaning_any _ g _ _ hvW hPW hg0 hsg.out).mono ?_; rintro e w1 ⟨r1, rfl, hN, hb1⟩; obtain ⟨o1, c1, rfl, hf1, hA1⟩ := hN.open; have hbx1 := hidi (hbs'.out.below hb1); have hrx1 := hidi (hr5.out.below hb1); obtain ⟨a1, a2, a3, a4, a5, ⟨t0, t1, t2, t3, t4⟩, s0, s1, s2, s3, s4⟩ := hbx1.out.cells)
      have hS := hidi (box_put hP hlt (hB.trans (hb1.mono hB.size)) (Nat.le_trans hz hb1.size) hrx1.out (.int .i64 (meanF g).op) (.string (meanF g).name) (.int .i64 (meanF g).val) (.int .i64 (meanF g).bound) (.slice o1 (meanF g).args.length c1))
      have hbw := hidi (hbx1.out.set (.int .i64 (meanF g).op) (.string (meanF g).name) (.int .i64 (meanF g).val) (.int .i64 (meanF g).bound) (.slice o1 (meanF g).args.length c1))
      go_wp2_with fail
      go_roundg (farF (meanF g))
      case measure => exact hfar.out
      case rel =>
        obtain ⟨p1, p2, p3, p4⟩ := hS.out
        refine ⟨meanF g, b, o1, c1, rfl, rfl, hbw.out, p2, hf1, p1 _ _ (hA1.mono fun c h => ?_), hm1, hFm, p3, p4⟩
        have hz1 := hb1.size
        rcases h with (h | ⟨h, h'⟩) | ⟨h, h'⟩
        · exact .inl h
        · exact .inr ⟨h, by omega⟩
        · exact .inr ⟨by omega, h'⟩

end Go.Proofs.YtbnnjbfbifihaaaGreatDoor

/-
  A list of formulas that the call itself makes: its row, and what its elements lead to.
-/
namespace Go.Proofs.YtbnnjbfbifihaaaGreatDoor
open Go.RowKit

theorem Tryz.fmInfo : (Tryz.prog.info? 24).map (fun i => (i.zero, i.size, i.bytes)) = some (some (.agg #[.int .i64 0, .string ⟨#[]⟩, .int .i64 0, .int .i64 0, .slice none 0 0]), 5, 64) := by kernel_rfl

/-- the cells of formulas, each with the slice of its arguments -/
def fmCells (es : List (Fm × Value)) : List Value := es.flatMap fun e => [.int .i64 e.1.op, .string e.1.name, .int .i64 e.1.val, .int .i64 e.1.bound, e.2]
theorem fmCells_snoc (es : List (Fm × Value)) (f : Fm) (sl : Value) : fmCells (es ++ [(f, sl)]) = fmCells es ++ [.int .i64 f.op, .string f.name, .int .i64 f.val, .int .i64 f.bound, sl] := by simp [fmCells]
theorem fmCells_app (es fs : List (Fm × Value)) : fmCells (es ++ fs) = fmCells es ++ fmCells fs := by simp [fmCells]
theorem fmCells_len (es : List (Fm × Value)) : (fmCells es).length = es.length * 5 := by
  induction es with
  | nil => rfl
  | cons e r ih => rw [show fmCells (e :: r) = [.int .i64 e.1.op, .string e.1.name, .int .i64 e.1.val, .int .i64 e.1.bound, e.2] ++ fmCells r from rfl, List.length_append, ih]; simp; omega
theorem fmCells_at (es : List (Fm × Value)) (k : Nat) (h : k < es.length) : (fmCells es)[k * 5]? = some (.int .i64 es[k].1.op) ∧ (fmCells es)[k * 5 + 1]? = some (.string es[k].1.name) ∧ (fmCells es)[k * 5 + 2]? = some (.int .i64 es[k].1.val) ∧ (fmCells es)[k * 5 + 3]? = some (.int .i64 es[k].1.bound) ∧ (fmCells es)[k * 5 + 4]? = some es[k].2 := by
  induction es generalizing k with
  | nil => simp at h
  | cons t r ih =>
    have e : fmCells (t :: r) = .int .i64 t.1.op :: .string t.1.name :: .int .i64 t.1.val :: .int .i64 t.1.bound :: t.2 :: fmCells r := rfl
    rw [e]
    cases k with
    | zero => exact ⟨rfl, rfl, rfl, rfl, rfl⟩
    | succ k =>
      have := ih k (by simpa using h)
      rw [show (k + 1) * 5 = k * 5 + 1 + 1 + 1 + 1 + 1 by omega]
      exact this
theorem fmCells_get (es : List (Fm × Value)) (j : Nat) (u : Value) (h : (fmCells es)[j]? = some u) : ∃ (k : Nat) (hk : k < es.length), (j = k * 5 ∧ u = .int .i64 es[k].1.op) ∨ (j = k * 5 + 1 ∧ u = .string es[k].1.name) ∨ (j = k * 5 + 2 ∧ u = .int .i64 es[k].1.val) ∨ (j = k * 5 + 3 ∧ u = .int .i64 es[k].1.bound) ∨ (j = k * 5 + 4 ∧ u = es[k].2) := by
  obtain ⟨hj, _⟩ := List.getElem?_eq_some_iff.1 h
  rw [fmCells_len] at hj
  have hk : j / 5 < es.length := by omega
  obtain ⟨q1, q2, q3, q4, q5⟩ := fmCells_at es (j / 5) hk
  have hr : j = j / 5 * 5 ∨ j = j / 5 * 5 + 1 ∨ j = j / 5 * 5 + 2 ∨ j = j / 5 * 5 + 3 ∨ j = j / 5 * 5 + 4 := by omega
  refine ⟨j / 5, hk, ?_⟩
  rcases hr with hr | hr | hr | hr | hr
  · rw [← hr, h] at q1; exact .inl ⟨hr, Option.some.inj q1⟩
  · rw [← hr, h] at q2; exact .inr (.inl ⟨hr, Option.some.inj q2⟩)
  · rw [← hr, h] at q3; exact .inr (.inr (.inl ⟨hr, Option.some.inj q3⟩))
  · rw [← hr, h] at q4; exact .inr (.inr (.inr (.inl ⟨hr, Option.some.inj q4⟩)))
  · rw [← hr, h] at q5; exact .inr (.inr (.inr (.inr ⟨hr, Option.some.inj q5⟩)))

theorem FArgsP.oneCell {P : Nat → Prop} {w : World} {v : Value} {l : List Fm} (h : FArgsP P w v l) : v.oneCell' = true := by
  obtain ⟨o, c, rfl⟩ := h.shape; rfl

/-- blocks that what the elements lead to may lie in: P's, and new ones but for the row's own -/
def Away (P : Nat → Prop) (base : Nat) (w : World) (v : Value) (b : Nat) : Prop := P b ∨ (base ≤ b ∧ b < w.heap.size ∧ v.ownBlock ≠ some b)
/-- a list of formulas in a row of the call's own -/
def OwnFs (P : Nat → Prop) (base : Nat) (w : World) (v : Value) (es : List (Fm × Value)) : Prop :=
  w.ownsRow base 24 5 v es.length (fmCells es) ∧ ∀ e ∈ es, Fits e.1 ∧ FArgsP (Away P base w v) w e.2 e.1.args

theorem ownFs_nil (P : Nat → Prop) (base : Nat) (w : World) : OwnFs P base w (.slice none 0 0) [] := ⟨⟨rfl, .inl ⟨rfl, rfl⟩⟩, fun e h => by cases h⟩
theorem OwnFs.shape {P : Nat → Prop} {base : Nat} {w : World} {v : Value} {es : List (Fm × Value)} (h : OwnFs P base w v es) : ∃ o c, v = .slice o es.length c := by
  rcases h.1.2 with ⟨rfl, h1⟩ | ⟨g, cap, cur, rfl, _⟩
  · rw [h1]; exact ⟨_, _, rfl⟩
  · exact ⟨_, _, rfl⟩
theorem OwnFs.lt {P : Nat → Prop} {base : Nat} {w : World} {v : Value} {es : List (Fm × Value)} (h : OwnFs P base w v es) : ∀ k, v.ownBlock = some k → base ≤ k ∧ k < w.heap.size := h.1.lt
/-- a world in which nothing that counts has changed -/
theorem OwnFs.keep {P : Nat → Prop} {base : Nat} {w w' : World} {v : Value} {es : List (Fm × Value)} (h : OwnFs P base w v es) (hz : w.heap.size ≤ w'.heap.size)
    (hk : ∀ b, (P b ∨ (base ≤ b ∧ b < w.heap.size)) → w'.heap[b]? = w.heap[b]?) : OwnFs P base w' v es := by
  refine ⟨?_, fun e he => ⟨(h.2 e he).1, ?_⟩⟩
  · refine ⟨h.1.1, ?_⟩
    rcases h.1.2 with h1 | ⟨g, cap, cur, hv, hb, hg, r⟩
    · exact .inl h1
    · exact .inr ⟨g, cap, cur, hv, hb, by rw [hk g (.inr ⟨hb, (Array.getElem?_eq_some_iff.1 hg).1⟩)]; exact hg, r⟩
  · refine ((h.2 e he).2.same fun b hb => hk b ?_).mono fun b hb => ?_
    · rcases hb with hb | ⟨h1, h2, -⟩
      · exact .inl hb
      · exact .inr ⟨h1, h2⟩
    · rcases hb with hb | ⟨h1, h2, h3⟩
      · exact .inl hb
      · exact .inr ⟨h1, by omega, h3⟩
/-- it reads as a list of formulas -/
theorem OwnFs.args {P : Nat → Prop} {base : Nat} {w : World} {v : Value} {es : List (Fm × Value)} (h : OwnFs P base w v es) : FArgsP (fun b => P b ∨ (base ≤ b ∧ b < w.heap.size)) w v (es.map Prod.fst) := by
  have h0 := h.1
  rcases h.1.2 with ⟨rfl, h1⟩ | ⟨g, cap, cur, rfl, hbg, hg, hle, hcap, _⟩
  · obtain rfl := List.length_eq_zero_iff.1 h1; exact .nil _ _
  · rcases Nat.eq_zero_or_pos es.length with hz | hp
    · obtain rfl := List.length_eq_zero_iff.1 hz; exact .nil _ _
    · have hl : (es.map Prod.fst).length = es.length := List.length_map _
      rw [show Value.slice (some ⟨g, 0, none⟩) es.length cap = Value.slice (some ⟨g, 0, none⟩) (es.map Prod.fst).length cap by rw [hl]]
      refine .cons g 0 cap _ (fun k => if hk : k < es.length then es[k].2 else undef) (by omega) (.inr ⟨hbg, (Array.getElem?_eq_some_iff.1 hg).1⟩) (by omega) (by unfold maxLen at hcap; omega) (fun k hk => ?_) (fun k hk => ?_) (fun k hk => ?_)
      · rw [List.getElem_map]; exact (h.2 _ (List.getElem_mem _)).1
      · rw [hl] at hk
        obtain ⟨q1, q2, q3, q4, q5⟩ := fmCells_at es k hk
        have a1 := h0.cells rfl _ _ q1
        have a2 := h0.cells rfl _ _ q2
        have a3 := h0.cells rfl _ _ q3
        have a4 := h0.cells rfl _ _ q4
        have a5 := h0.cells rfl _ _ q5
        rw [Addr.add_lit] at a1 a2 a3 a4 a5
        simp only [List.getElem_map, hk, dif_pos]
        exact ⟨a1, a2, a3, a4, a5⟩
      · rw [hl] at hk
        simp only [List.getElem_map, hk, dif_pos]
        refine (h.2 _ (List.getElem_mem _)).2.mono fun b hb => ?_
        rcases hb with hb | ⟨h1, h2, -⟩
        · exact .inl hb
        · exact .inr ⟨h1, h2⟩
/-- one more, behind an append -/
theorem OwnFs.snoc {P : Nat → Prop} {base : Nat} {w W w' : World} {v v' : Value} {es : List (Fm × Value)} {f : Fm} {sl : Value} (h : OwnFs P base w v es) (hf : Fits f) (ha : FArgsP (Away P base w v) w sl f.args) (hP : ∀ b, P b → b < base) (hbase : base ≤ w.heap.size)
    (hW : Below w.heap.size w W) (hown : w'.ownsRow base 24 5 v' (es.length + 1) (fmCells es ++ [.int .i64 f.op, .string f.name, .int .i64 f.val, .int .i64 f.bound, sl]))
    (hg : W.grownBy w' v.ownBlock) (hnew : v'.ownBlock = v.ownBlock ∨ ∃ k, v'.ownBlock = some k ∧ w.heap.size ≤ k) : OwnFs P base w' v' (es ++ [(f, sl)]) := by
  have key : ∀ {s : Value} {l : List Fm}, FArgsP (Away P base w v) w s l → FArgsP (Away P base w' v') w' s l := by
    intro s l hs
    have hlow : ∀ b, Away P base w v b → b < w.heap.size ∧ v.ownBlock ≠ some b := by
      rintro b (hb | ⟨h1, h2, h3⟩)
      · refine ⟨Nat.lt_of_lt_of_le (hP b hb) hbase, fun e => ?_⟩
        have := (h.lt b e).1
        have := hP b hb
        omega
      · exact ⟨h2, h3⟩
    refine (hs.same fun b hb => ?_).mono fun b hb => ?_
    · obtain ⟨h1, h2⟩ := hlow b hb
      rw [hg.block b (Nat.lt_of_lt_of_le h1 hW.size) (fun e => h2 e.symm), hW.block b h1]
    · obtain ⟨h1, h2⟩ := hlow b hb
      rcases hb with hb | ⟨h3, -, -⟩
      · exact .inl hb
      · refine .inr ⟨h3, Nat.lt_of_lt_of_le h1 (Nat.le_trans hW.size hg.size), fun e => ?_⟩
        rcases hnew with hn | ⟨k, hn, hk⟩
        · rw [hn] at e; exact h2 e
        · rw [hn] at e; cases e; omega
  refine ⟨?_, fun e he => ?_⟩
  · rw [List.length_append, List.length_singleton, fmCells_snoc]; exact hown
  · rcases List.mem_append.1 he with he | he
    · exact ⟨(h.2 e he).1, key (h.2 e he).2⟩
    · obtain rfl : e = (f, sl) := by simpa using he
      exact ⟨hf, key ha⟩

end Go.Proofs.YtbnnjbfbifihaaaGreatDoor

/-
  The contracts of package formula's maker: assemble, given form one level below.
-/
namespace Go.Proofs.YtbnnjbfbifihaaaGreatDoor
open Go.RowKit

/-- the maker's block -/
def MCell (w : World) (M : Nat) (n : Nat) : Prop := w.heap[M]? = some (.cells #[.int .i64 n] 70 (0, 0))
theorem MCell.cell {w : World} {M n : Nat} (h : MCell w M n) : w.cell? ⟨M, 0, none⟩ = some (.int .i64 n) := cell_of_row _ _ 0 _ _ _ h
theorem MCell.frozen {w : World} {M n : Nat} (h : MCell w M n) : w.frozen? ⟨M, 0, none⟩ = false := by simp [World.frozen?, show w.heap[M]? = _ from h]
theorem MCell.below {w w' : World} {M n : Nat} (h : MCell w M n) (hB : Below w.heap.size w w') : MCell w' M n := (hB.block M (Array.getElem?_eq_some_iff.1 h).1).trans h
theorem MCell.lt {w : World} {M n : Nat} (h : MCell w M n) : M < w.heap.size := (Array.getElem?_eq_some_iff.1 h).1
theorem MCell.set {w : World} {M n : Nat} (h : MCell w M n) (k : Nat) : MCell (w.setCell ⟨M, 0, none⟩ (.int .i64 k)) M k := by
  unfold MCell at h ⊢
  simp only [World.setCell, Array.getElem?_modify]
  simp [h]
theorem MCell.other {w : World} {M n b o : Nat} {u : Value} (h : MCell w M n) (hn : b ≠ M) : MCell (w.setCell ⟨b, o, none⟩ u) M n := (Below.heap_setCell _ _ _ _ (by exact fun e => hn e.symm)).trans h

/-- what a maker leaves: the form, and fewer nodes to make; or nothing -/
def MadePost (P : Nat → Prop) (M : Nat) (F : Fm) (left d : Nat) (w : World) (e : Ending) (w' : World) : Prop :=
  Sv w M w' ∧ ((F.nodes ≤ left ∧ F.depth ≤ d ∧ (∃ r, e = .returned (.tuple #[r, .bool true]) ∧ FAtP (NewP P w w') w' r F) ∧ MCell w' M (left - F.nodes)) ∨
    (¬ (F.nodes ≤ left ∧ F.depth ≤ d) ∧ e = .returned (.tuple #[.agg #[.int .i64 0, .string ⟨#[]⟩, .int .i64 0, .int .i64 0, .slice none 0 0], .bool false]) ∧ ∃ z, MCell w' M z))

def FormOk (d : Nat) : Prop := ∀ (P : Nat → Prop) (M : Nat) (f : Fm) (v : Value) (neg : Bool) (left : Nat) (w : World), Env w → MCell w M left → 0 < M → (∀ b, P b → b < w.heap.size ∧ b ≠ M) → FAtP P w v f → nodesB f = true → left ≤ 1000 → ∀ dz : Int, dz = d →
  Calls Tryz.prog 66 #[.pointer (some ⟨M, 0, none⟩), v, .bool neg, .int .i64 dz] w (MadePost P M (formP f neg) left d w)
def AsmOk (d : Nat) : Prop := ∀ (P : Nat → Prop) (M : Nat) (h : Fm) (oh : Option Addr) (nh ch : Nat) (l : List Fm) (v : Value) (neg : Bool) (left : Nat) (w : World), Env w → MCell w M left → 0 < M → (∀ b, P b → b < w.heap.size ∧ b ≠ M) → Fits h → FArgsP P w v l → (∀ x ∈ l, nodesB x = true) → left ≤ 1000 → ∀ dz : Int, dz = d →
  Calls Tryz.prog 93 #[.pointer (some ⟨M, 0, none⟩), .agg #[.int .i64 h.op, .string h.name, .int .i64 h.val, .int .i64 h.bound, .slice oh nh ch], v, .bool neg, .int .i64 dz] w (MadePost P M (.mk h.op h.name h.val h.bound (l.map fun x => formP x neg)) left d w)

theorem Env.sv {w W : World} {M : Nat} (h : Env w) (hM : 0 < M) (hS : Sv w M W) : Env W := by
  refine ⟨Nat.lt_of_lt_of_le h.pos hS.size, fun k hk => ?_⟩
  obtain ⟨h1, h2, h3, h4, h5, h6, h7⟩ := h.row k hk
  exact ⟨hS.cell h.pos (by omega) h1, hS.cell h.pos (by omega) h2, hS.cell h.pos (by omega) h3, hS.cell h.pos (by omega) h4, hS.cell h.pos (by omega) h5, hS.cell h.pos (by omega) h6, hS.cell h.pos (by omega) h7⟩
theorem FArgsP.sv {P : Nat → Prop} {w W : World} {M : Nat} {v : Value} {l : List Fm} (h : FArgsP P w v l) (hS : Sv w M W) (hP : ∀ b, P b → b < w.heap.size ∧ b ≠ M) : FArgsP P W v l := h.same fun b hb => hS.block b (hP b hb).1 (hP b hb).2
theorem sv_setM (w : World) (M : Nat) (u : Value) : Sv w M (w.setCell ⟨M, 0, none⟩ u) := (Sv.refl w M).set 0 u
/-- the world in which assemble's loop begins -/
theorem asm_open (w : World) (M left : Nat) (hM : MCell w M left) (a1 a2 a3 a4 : Value) : ∃ V0, Hid (((w.setCell ⟨M, 0, none⟩ (.int .i64 ((left : Int) - 1))).alloc (.cells #[a1, a2, a3, a4, .slice none 0 0] 24)).alloc (.cells #[.int .i64 0, .string ⟨#[]⟩, .int .i64 0, .int .i64 0, .slice none 0 0] 24) = V0) ∧
    (0 < left → MCell V0 M (left - 1)) ∧ Hid (V0.heap[w.heap.size]? = some (.cells #[a1, a2, a3, a4, .slice none 0 0] 24 (0, 0))) ∧ Hid (Res5 V0 (w.heap.size + 1)) ∧ Sv w M V0 ∧ V0.heap.size = w.heap.size + 2 := by
  have hz : (w.setCell ⟨M, 0, none⟩ (.int .i64 ((left : Int) - 1))).heap.size = w.heap.size := by simp only [World.setCell, Array.size_modify]
  have h1 := heap_alloc_new (w.setCell ⟨M, 0, none⟩ (.int .i64 ((left : Int) - 1))) (.cells #[a1, a2, a3, a4, .slice none 0 0] 24)
  have h2 := heap_alloc_new ((w.setCell ⟨M, 0, none⟩ (.int .i64 ((left : Int) - 1))).alloc (.cells #[a1, a2, a3, a4, .slice none 0 0] 24)) (.cells #[.int .i64 0, .string ⟨#[]⟩, .int .i64 0, .int .i64 0, .slice none 0 0] 24)
  rw [hz] at h1
  rw [World.size_alloc, hz] at h2
  refine ⟨_, rfl, fun hl => ?_, ?_, ⟨_, _, _, _, _, h2⟩, ((sv_setM w M _).alloc _).alloc _, by rw [World.size_alloc, World.size_alloc, hz]⟩
  · have e : (left : Int) - 1 = ((left - 1 : Nat) : Int) := by omega
    rw [e]
    exact ((hM.set (left - 1)).below (below_box _ _)).below (below_box _ _)
  · unfold Hid
    rw [Below.heap_alloc _ _ _ (by rw [World.size_alloc, hz]; omega)]
    exact h1

/-- a block that the call has made is written -/
theorem sv_set1 {w W : World} {M R : Nat} (h : Sv w M W) (hR : w.heap.size ≤ R) (j : Nat) (u : Value) : Sv w M (W.setCell ⟨R, j, none⟩ u) :=
  ⟨h.os, h.tape, h.output, by simp only [World.setCell, Array.size_modify]; exact h.size, fun k hk hn => (Below.heap_setCell _ _ _ _ (show k ≠ R by omega)).trans (h.block k hk hn)⟩
theorem sv_set5 {w W : World} {M R : Nat} (h : Sv w M W) (hR : w.heap.size ≤ R) (u1 u2 u3 u4 u5 : Value) : Sv w M (((((W.setCell ⟨R, 0, none⟩ u1).setCell ⟨R, 1, none⟩ u2).setCell ⟨R, 2, none⟩ u3).setCell ⟨R, 3, none⟩ u4).setCell ⟨R, 4, none⟩ u5) :=
  sv_set1 (sv_set1 (sv_set1 (sv_set1 (sv_set1 h hR 0 u1) hR 1 u2) hR 2 u3) hR 3 u4) hR 4 u5
/-- one argument too many, or too deep -/
theorem made_not {h : Fm} {l : List Fm} {neg : Bool} {k lf left d : Nat} {x : Fm} {es : List (Fm × Value)} (hlt : k < l.length) (hx : l[k] = x) (hem : es.map Prod.fst = (l.take k).map fun x => formP x neg) (hnl : lf + Fm.nodesL (es.map Prod.fst) + 1 = left) (q : ¬ ((formP x neg).nodes ≤ lf ∧ (formP x neg).depth ≤ d - 1)) :
    ¬ ((Fm.mk h.op h.name h.val h.bound (l.map fun x => formP x neg)).nodes ≤ left ∧ (Fm.mk h.op h.name h.val h.bound (l.map fun x => formP x neg)).depth ≤ d) := by
  rintro ⟨h1, h2⟩
  rw [Fm.nodes_eq] at h1
  rw [Fm.depth_eq] at h2
  simp only [Fm.args] at h1 h2
  have hk : k < (l.map fun x => formP x neg).length := by rw [List.length_map]; exact hlt
  have hg : (l.map fun x => formP x neg)[k] = formP x neg := by rw [List.getElem_map, hx]
  have e1 := Fm.nodesL_take hk
  have e2 := Fm.nodesL_take_le (l.map fun x => formP x neg) (k + 1)
  have e3 := Fm.depth_get hk
  rw [hg] at e1 e3
  have e4 : es.map Prod.fst = (l.map fun x => formP x neg).take k := by rw [hem, List.map_take]
  rw [e4] at hnl
  exact q ⟨by omega, by omega⟩

set_option maxRecDepth 100000 in
set_option maxHeartbeats 8000000 in
theorem asm_of_form (d : Nat) (hd : d ≤ 1000) (hform : d = 0 ∨ FormOk (d - 1)) : AsmOk d := by
  intro P M h oh nh ch l v neg left w hE hM hM0 hP hfit hv hl hle dz hdz
  obtain ⟨o, c, rfl⟩ := hv.shape
  have m0 := hM.cell
  have mf := hM.frozen
  have hMlt := hM.lt
  have hlen := hv.len
  by_cases hz : left = 0 ∨ d = 0
  · have hnot : Hid (¬ ((Fm.mk h.op h.name h.val h.bound (l.map fun x => formP x neg)).nodes ≤ left ∧ (Fm.mk h.op h.name h.val h.bound (l.map fun x => formP x neg)).depth ≤ d)) := by
      unfold Hid
      rintro ⟨h1, h2⟩
      have := Fm.nodes_pos (Fm.mk h.op h.name h.val h.bound (l.map fun x => formP x neg))
      have := Fm.depth_pos (Fm.mk h.op h.name h.val h.bound (l.map fun x => formP x neg))
      omega
    have hSS : ∀ o1 o2, Sv w M ((w.alloc o1).alloc o2) := fun o1 o2 => ((Sv.refl w M).alloc o1).alloc o2
    have hMM : ∀ o1 o2, MCell ((w.alloc o1).alloc o2) M left := fun o1 o2 => (hM.below (below_box _ _)).below (below_box _ _)
    have hSS' := hidi hSS
    have hMM' := hidi hMM
    by_cases hl0 : left = 0
    · have e1 : ((left : Int) == 0) = true := by rw [hl0]; rfl
      clear hl0 hz hSS hMM hform hdz hP hl hE
      go_enter Tryz.func93, Tryz.ntmps93
      go_wp2_with fail
      refine bodyPost_ret (results_cell_tmp rfl _ _ (w.heap.size + 1) 24 _ (0, 0) (.bool false) rfl rfl (heap_alloc2_new w _ _) rfl) rfl ?_
      exact ⟨hSS'.out _ _, .inr ⟨hnot.out, rfl, _, hMM'.out _ _⟩⟩
    · have e1 : ((left : Int) == 0) = false := beq_eq_false_iff_ne.2 (by omega)
      have e2 : (dz == 0) = true := by rw [hdz, show d = 0 by omega]; rfl
      clear hl0 hz hSS hMM hform hdz hP hl hE
      go_enter Tryz.func93, Tryz.ntmps93
      go_wp2_with fail
      refine bodyPost_ret (results_cell_tmp rfl _ _ (w.heap.size + 1) 24 _ (0, 0) (.bool false) rfl rfl (heap_alloc2_new w _ _) rfl) rfl ?_
      exact ⟨hSS'.out _ _, .inr ⟨hnot.out, rfl, _, hMM'.out _ _⟩⟩
  · have hl0 : 0 < left := by omega
    have hd0 : 0 < d := by omega
    have e1 : ((left : Int) == 0) = false := beq_eq_false_iff_ne.2 (by omega)
    have e2 : (dz == 0) = false := beq_eq_false_iff_ne.2 (by omega)
    have hF := hform.resolve_left (by omega)
    obtain ⟨V0, hV0, hMV, hboxV, hresV, hSV, hzV⟩ := asm_open w M left hM (.int .i64 h.op) (.string h.name) (.int .i64 h.val) (.int .i64 h.bound)
    have hMV' := hidi (hMV hl0)
    have hd1 : Hid (dz = d) := hdz
    have b0 : 1 ≤ dz := by omega
    have b1 : dz ≤ 1000 := by omega
    have hz0 := hidi hzV
    clear hMV hdz hzV hz
    go_enter Tryz.func93, Tryz.ntmps93
    go_wp2_with fail
    rw [hV0.out]
    go_loopw [36] (fun i wr => ∃ (k : Nat) (es : List (Fm × Value)) (uo : Option Addr) (uc lf : Nat), k ≤ l.length ∧ i = .int .i64 k ∧ Hid (es.length = k) ∧ Hid (es.map Prod.fst = (l.take k).map fun x => formP x neg) ∧
        Hid (wr.heap[w.heap.size]? = some (.cells #[.int .i64 h.op, .string h.name, .int .i64 h.val, .int .i64 h.bound, .slice uo k uc] 24 (0, 0))) ∧ OwnFs P (w.heap.size + 2) wr (.slice uo k uc) es ∧ Hid (MCell wr M lf) ∧
        Hid (lf + Fm.nodesL (es.map Prod.fst) + 1 = left) ∧ Hid (Fm.depthL (es.map Prod.fst) + 1 ≤ d) ∧ Hid (Res5 wr (w.heap.size + 1)) ∧ Sv w M wr ∧ w.heap.size + 2 ≤ wr.heap.size) (fun i _ => l.length - (intOf i).toNat)
    case atStart => exact ⟨0, [], none, 0, left - 1, Nat.zero_le _, rfl, rfl, rfl, hboxV, ownFs_nil _ _ _, hMV', by unfold Hid; rw [List.map_nil, Fm.nodesL_nil]; omega, by unfold Hid; rw [List.map_nil, Fm.depthL_nil]; omega, hresV, hSV, by have := hz0.out; omega⟩
    case round =>
      obtain ⟨k, es, uo, uc, lf, hk, rfl, hek, hem, hbx, hown, hMC, hnl, hdl, hre, hS, hsz⟩ := hrel
      by_cases hlt : k < l.length
      · obtain ⟨b, off, rfl, hb, hat⟩ := hv.at (by omega)
        obtain ⟨sl0, hc5, sl, hse, hfx, hsx⟩ := hat k hlt
        obtain rfl : sl0 = sl := by simpa [fval] using hse
        have hnx : nodesB l[k] = true := hl _ (List.getElem_mem hlt)
        have hstep : Hid (l.take (k + 1) = l.take k ++ [l[k]]) := by unfold Hid; rw [List.take_succ_eq_append_getElem hlt]
        have hLk := hidi (List.take_append_drop (k + 1) l)
        obtain ⟨x, hx⟩ : ∃ x, Hid (l[k] = x) := ⟨l[k], hidi rfl⟩
        rw [hx.out] at hc5 hfx hsx hnx hstep
        obtain ⟨osl, csl, rfl⟩ := hsx.shape
        have hbw := (hP b hb).1
        have hbM := (hP b hb).2
        obtain ⟨x0, x1, x2, x3, x4⟩ := hc5
        have d0 := hS.cell hbw hbM x0
        have d1 := hS.cell hbw hbM x1
        have d2 := hS.cell hbw hbM x2
        have d3 := hS.cell hbw hbM x3
        have d4 := hS.cell hbw hbM x4
        clear hat hse x0 x1 x2 x3 x4
        have k0 : (0 : Int) ≤ (k : Int) := by omega
        have k1 : (k : Int) < (l.length : Int) := by omega
        obtain ⟨WA, hWA⟩ : ∃ WA, Hid (wr.alloc (.cells #[.int .i64 x.op, .string x.name, .int .i64 x.val, .int .i64 x.bound, .slice osl x.args.length csl] 24) = WA) := ⟨_, rfl⟩
        have hBA : Below wr.heap.size wr WA := by rw [← hWA.out]; exact below_box _ _
        have hzA : Hid (WA.heap.size = wr.heap.size + 1) := by unfold Hid; rw [← hWA.out]; simp
        have hSA := hS.next hBA
        have hPA : ∀ b, P b → b < WA.heap.size ∧ b ≠ M := fun b h => ⟨Nat.lt_of_lt_of_le (hP b h).1 hSA.size, (hP b h).2⟩
        have hEA := hE.sv hM0 hSA
        have hMA := hMC.out.below hBA
        have hvA : FAtP P WA (.agg #[.int .i64 x.op, .string x.name, .int .i64 x.val, .int .i64 x.bound, .slice osl x.args.length csl]) x := ⟨_, rfl, hfx, hsx.sv hSA hP⟩
        have hlf : lf ≤ 1000 := by have := hnl.out; omega
        have hd2 : Hid (dz - 1 = ((d - 1 : Nat) : Int)) := by unfold Hid; rw [hd1.out]; omega
        go_wp2_with fail
        rw [hWA.out]
        have hF' := hF P M x (.agg #[.int .i64 x.op, .string x.name, .int .i64 x.val, .int .i64 x.bound, .slice osl x.args.length csl]) neg lf WA hEA hMA hM0 hPA hvA hnx hlf _ hd2.out
        refine hF'.mono ?_
        clear hF'
        rintro e w1 ⟨hS1, ⟨q1, q2, ⟨r, rfl, hN⟩, hM1⟩ | ⟨q, rfl, z, hM1⟩⟩
        · obtain ⟨o1, c1, rfl, hf1, hA1⟩ := hN.open
          have hSw := hSA.trans hS1
          have hzs := hS1.size
          have hzA' := hzA.out
          have hXM : w.heap.size ≠ M := by omega
          have hRM : w.heap.size + 1 ≠ M := by omega
          have hsame : ∀ b, b < wr.heap.size → b ≠ M → w1.heap[b]? = wr.heap[b]? := fun b h hn => (hS1.block b (by omega) hn).trans (hBA.block b h)
          have hbx1 := hidi ((hsame _ (by omega) hXM).trans hbx.out)
          have f4 := cell_of_row w1 w.heap.size 4 _ _ _ hbx1.out
          have ff4 : w1.frozen? ⟨w.heap.size, 4, none⟩ = false := by simp [World.frozen?, hbx1.out]
          simp only [List.getElem?_toArray, List.getElem?_cons_zero, List.getElem?_cons_succ] at f4
          have hre1 : Hid (Res5 w1 (w.heap.size + 1)) := by
            obtain ⟨a1, a2, a3, a4, a5, hr⟩ := hre.out
            exact ⟨a1, a2, a3, a4, a5, (hsame _ (by omega) hRM).trans hr⟩
          have hown1 : OwnFs P (w.heap.size + 2) w1 (.slice uo k uc) es := hown.keep (by omega) (fun b hb => hsame b (by rcases hb with h | ⟨-, h⟩; exact Nat.lt_of_lt_of_le (hP b h).1 hS.size; exact h) (by rcases hb with h | ⟨h, -⟩; exact (hP b h).2; omega))
          have hNA : FArgsP (Away P (w.heap.size + 2) w1 (.slice uo k uc)) w1 (.slice o1 (formP x neg).args.length c1) (formP x neg).args := hA1.mono fun b hb => by
            rcases hb with hb | ⟨h1, h2⟩
            · exact .inl hb
            · exact .inr ⟨by omega, h2, fun e => by have := (hown.lt b e).2; omega⟩
          have hPb : ∀ b, P b → b < w.heap.size + 2 := fun b h => by have := (hP b h).1; omega
          have hown1' := hidi hown1
          have hNA' := hidi hNA
          have hsame' := hidi hsame
          have hPb' := hidi hPb
          have hownr := hown1.1
          rw [hek.out] at hownr
          have hkl : k ≤ 1000 := by
            have h1 := Fm.length_le_nodes (es.map Prod.fst)
            rw [List.length_map, hek.out] at h1
            have := hnl.out
            omega
          obtain ⟨i0, hi, hi0, hi1, hi2⟩ := info_parts Tryz.fmInfo
          have hl1 : w.heap.size < w1.heap.size := by omega
          have hl2 : w.heap.size + 1 < w1.heap.size := by omega
          clear hzA'
          have hownlt := hidi hown.lt
          have hPn : Hid (∀ b, P b → b ≠ w.heap.size) := fun b h => by have := (hP b h).1; omega
          clear hP hPA hl hE hEA hv hsx hvA hnx hS hSA hsame hNA hPb hown hown1 hA1 d0 d1 d2 d3 d4 hMA
          go_wp2_with (at_builtin; refine wpList_append_lies _ rfl (.tmp 53) (.tmp 55) 22 rfl (w.heap.size + 2) 24 i0 (.agg #[.int .i64 0, .string ⟨#[]⟩, .int .i64 0, .int .i64 0, .slice none 0 0]) 5 64 Tryz.underlying22 hi hi0 hi1 hi2 rfl (by decide) (.slice uo k uc) k (fmCells es) rfl ((hownr.alloc _).alloc _) ⟨w1.heap.size + 1, 0, none⟩ 1 1 [.int .i64 (formP x neg).op, .string (formP x neg).name, .int .i64 (formP x neg).val, .int .i64 (formP x neg).bound, .slice o1 (formP x neg).args.length c1] rfl rfl ?c1 ?c2 (by decide) ?c3 ?c4 ?c5 (w1.heap.size + 2) ?c6 ?_)
          case c1 =>
            have hnb := World.news_of_block (w := (w1.alloc (.cells #[.int .i64 (formP x neg).op, .string (formP x neg).name, .int .i64 (formP x neg).val, .int .i64 (formP x neg).bound, .slice o1 (formP x neg).args.length c1] 24)).alloc (.cells #[.int .i64 (formP x neg).op, .string (formP x neg).name, .int .i64 (formP x neg).val, .int .i64 (formP x neg).bound, .slice o1 (formP x neg).args.length c1] 24)) (heap_alloc_new (w1.alloc (.cells #[.int .i64 (formP x neg).op, .string (formP x neg).name, .int .i64 (formP x neg).val, .int .i64 (formP x neg).bound, .slice o1 (formP x neg).args.length c1] 24)) _)
            rw [World.size_alloc] at hnb
            exact hnb
          case c2 => simp [Value.oneCell']
          case c3 => unfold maxLen; omega
          case c4 => omega
          case c5 => simp; omega
          case c6 => simp
          intro gg cap w2 hown2 hgrow hat hlt2
          have hsame2 : ∀ b, b < w1.heap.size → (Value.slice uo k uc).ownBlock ≠ some b → w2.heap[b]? = w1.heap[b]? := fun b h hn =>
            (hgrow.block b (by simp; omega) (fun e => hn e.symm)).trans ((Below.heap_alloc _ _ _ (by simp; omega)).trans (Below.heap_alloc _ _ _ h))
          have hnX : (Value.slice uo k uc).ownBlock ≠ some w.heap.size := fun e => by have := (hownlt.out _ e).1; omega
          have hnR : (Value.slice uo k uc).ownBlock ≠ some (w.heap.size + 1) := fun e => by have := (hownlt.out _ e).1; omega
          have hnM : (Value.slice uo k uc).ownBlock ≠ some M := fun e => by have := (hownlt.out _ e).1; omega
          have hbx2 := hidi ((hsame2 _ hl1 hnX).trans hbx1.out)
          have p4 := cell_of_row w2 w.heap.size 4 _ _ _ hbx2.out
          have pf4 : w2.frozen? ⟨w.heap.size, 4, none⟩ = false := by simp [World.frozen?, hbx2.out]
          simp only [List.getElem?_toArray, List.getElem?_cons_zero, List.getElem?_cons_succ] at p4
          have hz12 : w1.heap.size + 2 ≤ w2.heap.size := by have := hgrow.size; simp at this; omega
          have hB12 : Below w1.heap.size w1 ((w1.alloc (.cells #[.int .i64 (formP x neg).op, .string (formP x neg).name, .int .i64 (formP x neg).val, .int .i64 (formP x neg).bound, .slice o1 (formP x neg).args.length c1] 24)).alloc (.cells #[.int .i64 (formP x neg).op, .string (formP x neg).name, .int .i64 (formP x neg).val, .int .i64 (formP x neg).bound, .slice o1 (formP x neg).args.length c1] 24)) := (below_box w1 _).alloc (by simp) _
          have hsn : OwnFs P (w.heap.size + 2) w2 (.slice (some ⟨gg, 0, none⟩) (k + 1) cap) (es ++ [(formP x neg, .slice o1 (formP x neg).args.length c1)]) := by
            refine hown1'.out.snoc hf1 hNA'.out hPb'.out (by omega) hB12 (by rw [hek.out]; exact hown2) hgrow ?_
            rcases hat with h | h
            · exact .inl h.symm
            · exact .inr ⟨gg, rfl, by omega⟩
          have hset : ∀ b, b ≠ w.heap.size → (w2.setCell ⟨w.heap.size, 4, none⟩ (.slice (some ⟨gg, 0, none⟩) (k + 1) cap)).heap[b]? = w2.heap[b]? := fun b hb => Below.heap_setCell _ _ _ _ hb
          have hzset : (w2.setCell ⟨w.heap.size, 4, none⟩ (.slice (some ⟨gg, 0, none⟩) (k + 1) cap)).heap.size = w2.heap.size := by simp only [World.setCell, Array.size_modify]
          have r1 : Hid ((w2.setCell ⟨w.heap.size, 4, none⟩ (.slice (some ⟨gg, 0, none⟩) (k + 1) cap)).heap[w.heap.size]? = some (.cells #[.int .i64 h.op, .string h.name, .int .i64 h.val, .int .i64 h.bound, .slice (some ⟨gg, 0, none⟩) (k + 1) cap] 24 (0, 0))) := by
            have := hbx2.out
            unfold Hid
            simp only [World.setCell, Array.getElem?_modify]
            simp [this]
          have r2 := hidi (hsn.keep (w' := w2.setCell ⟨w.heap.size, 4, none⟩ (.slice (some ⟨gg, 0, none⟩) (k + 1) cap)) (by rw [hzset]; exact Nat.le_refl _) (fun b hb => hset b (by rcases hb with h | ⟨h, -⟩; exact hPn.out b h; omega)))
          have r3 : Hid (MCell (w2.setCell ⟨w.heap.size, 4, none⟩ (.slice (some ⟨gg, 0, none⟩) (k + 1) cap)) M (lf - (formP x neg).nodes)) := (hset M (fun e => hXM e.symm)).trans ((hsame2 M hM1.lt hnM).trans hM1)
          have r4 : Hid (Res5 (w2.setCell ⟨w.heap.size, 4, none⟩ (.slice (some ⟨gg, 0, none⟩) (k + 1) cap)) (w.heap.size + 1)) := by
            obtain ⟨a1, a2, a3, a4, a5, hr⟩ := hre1.out
            exact ⟨a1, a2, a3, a4, a5, (hset _ (by omega)).trans ((hsame2 _ hl2 hnR).trans hr)⟩
          have r5 : Hid (Sv w M (w2.setCell ⟨w.heap.size, 4, none⟩ (.slice (some ⟨gg, 0, none⟩) (k + 1) cap))) := by
            refine ⟨hgrow.os.trans hSw.os, hgrow.tape.trans hSw.tape, hgrow.output.trans hSw.output, by rw [hzset]; have := hSw.size; omega, fun b hb hn => ?_⟩
            exact (hset b (by omega)).trans ((hsame2 b (by omega) (fun e => by have := (hownlt.out _ e).1; omega)).trans (hSw.block b hb hn))
          have r6 : Hid (lf - (formP x neg).nodes + Fm.nodesL ((es ++ [(formP x neg, Value.slice o1 (formP x neg).args.length c1)]).map Prod.fst) + 1 = left) := by
            unfold Hid
            have := hnl.out
            rw [List.map_append, Fm.nodesL_append, List.map_cons, List.map_nil, Fm.nodesL_cons, Fm.nodesL_nil]
            simp only
            omega
          have r7 : Hid (Fm.depthL ((es ++ [(formP x neg, Value.slice o1 (formP x neg).args.length c1)]).map Prod.fst) + 1 ≤ d) := by
            unfold Hid
            have := hdl.out
            rw [List.map_append, Fm.depthL_append, List.map_cons, List.map_nil, Fm.depthL_cons, Fm.depthL_nil]
            simp only
            omega
          have r8 : Hid ((es ++ [(formP x neg, Value.slice o1 (formP x neg).args.length c1)]).map Prod.fst = (l.take (k + 1)).map fun x => formP x neg) := by
            unfold Hid
            rw [hstep.out, List.map_append, List.map_append, hem.out]
            rfl
          have r9 : w.heap.size + 2 ≤ (w2.setCell ⟨w.heap.size, 4, none⟩ (.slice (some ⟨gg, 0, none⟩) (k + 1) cap)).heap.size := by rw [hzset]; omega
          have r10 : Hid ((es ++ [(formP x neg, Value.slice o1 (formP x neg).args.length c1)]).length = k + 1) := by unfold Hid; rw [List.length_append, hek.out]; rfl
          have r9' := hidi r9
          clear hsame2 hset hown2 hgrow hat hsn hB12 hownr hzset r9 hM1 f4 ff4 hnX hnR hnM
          go_wp2_with fail
          go_roundw
          case rel => exact ⟨k + 1, _, some ⟨gg, 0, none⟩, cap, _, by omega, by go_num, r10, r8, r1, r2.out, r3, r6, r7, r4, r5.out, r9'.out⟩
          case measure => simp [intOf]; omega
        · have hSw := hSA.trans hS1
          have hzs := hS1.size
          have hzA' := hzA.out
          have hRM : w.heap.size + 1 ≠ M := by omega
          have hre1 : Hid (Res5 w1 (w.heap.size + 1)) := by
            obtain ⟨a1, a2, a3, a4, a5, hr⟩ := hre.out
            exact ⟨a1, a2, a3, a4, a5, (hS1.block _ (by omega) hRM).trans ((hBA.block _ (by omega)).trans hr)⟩
          have hl2 : w.heap.size + 1 < w1.heap.size := by omega
          obtain ⟨a1, a2, a3, a4, a5, ⟨t0, t1, t2, t3, t4⟩, s0, s1, s2, s3, s4⟩ := hre1.out.cells
          have hnot := hidi (made_not (h := h) hlt hx.out hem.out hnl.out q)
          have hSw' := hidi hSw
          have hM1' := hidi hM1
          clear hP hPA hl hE hEA hv hsx hvA hnx hS hSA d0 d1 d2 d3 d4 hMA hzA' hM1 hSw
          go_wp2_with fail
          refine bodyPost_ret (results_cell_tmp rfl _ _ (w.heap.size + 1) 24 _ (0, 0) (.bool false) rfl rfl ((Below.heap_alloc _ _ _ (by rw [set5_size]; exact hl2)).trans (hre1.out.set _ _ _ _ _)) rfl) rfl ?_
          have hMs : ∀ u1 u2 u3 u4 u5, MCell (((((w1.setCell ⟨w.heap.size + 1, 0, none⟩ u1).setCell ⟨w.heap.size + 1, 1, none⟩ u2).setCell ⟨w.heap.size + 1, 2, none⟩ u3).setCell ⟨w.heap.size + 1, 3, none⟩ u4).setCell ⟨w.heap.size + 1, 4, none⟩ u5) M z := fun _ _ _ _ _ => (set5_other _ _ _ (fun e => hRM e.symm) _ _ _ _ _).trans hM1'.out
          exact ⟨(sv_set5 hSw'.out (Nat.le_succ _) _ _ _ _ _).alloc _, .inr ⟨hnot.out, rfl, z, (hMs _ _ _ _ _).below (below_box _ _)⟩⟩
      · obtain rfl : k = l.length := by omega
        have hXM : w.heap.size ≠ M := by omega
        have hRM : w.heap.size + 1 ≠ M := by omega
        have d0 := cell_of_row wr w.heap.size 0 _ _ _ hbx.out
        have d1 := cell_of_row wr w.heap.size 1 _ _ _ hbx.out
        have d2 := cell_of_row wr w.heap.size 2 _ _ _ hbx.out
        have d3 := cell_of_row wr w.heap.size 3 _ _ _ hbx.out
        have d4 := cell_of_row wr w.heap.size 4 _ _ _ hbx.out
        simp only [List.getElem?_toArray, List.getElem?_cons_zero, List.getElem?_cons_succ] at d0 d1 d2 d3 d4
        obtain ⟨a1, a2, a3, a4, a5, ⟨t0, t1, t2, t3, t4⟩, s0, s1, s2, s3, s4⟩ := hre.out.cells
        have hargs := hown.args
        have hem' : es.map Prod.fst = l.map fun x => formP x neg := by rw [hem.out, List.take_length]
        rw [hem'] at hargs
        have hnl' := hidi hnl.out
        have hnod : Hid ((Fm.mk h.op h.name h.val h.bound (l.map fun x => formP x neg)).nodes ≤ left ∧ (Fm.mk h.op h.name h.val h.bound (l.map fun x => formP x neg)).depth ≤ d ∧ lf = left - (Fm.mk h.op h.name h.val h.bound (l.map fun x => formP x neg)).nodes) := by
          unfold Hid
          have e1 := hnl.out
          have e2 := hdl.out
          rw [hem'] at e1 e2
          rw [Fm.nodes_eq, Fm.depth_eq]
          simp only [Fm.args]
          refine ⟨by omega, by omega, by omega⟩
        have hFA : FAtP (fun b => P b ∨ (w.heap.size + 2 ≤ b ∧ b < wr.heap.size)) wr (.agg #[.int .i64 h.op, .string h.name, .int .i64 h.val, .int .i64 h.bound, .slice uo l.length uc]) (.mk h.op h.name h.val h.bound (l.map fun x => formP x neg)) := ⟨_, rfl, hfit, hargs⟩
        have hS' := hidi hS
        have hargs' := hidi hFA
        have hPR : Hid (∀ b, (P b ∨ (w.heap.size + 2 ≤ b ∧ b < wr.heap.size)) → b ≠ w.heap.size + 1) := fun b hb => by
          rcases hb with hb | ⟨hb, -⟩
          · have := (hP b hb).1; omega
          · omega
        clear hP hl hE hv hS hown hargs hFA hem'
        go_wp2_with fail
        refine bodyPost_ret (results_cell_tmp rfl _ _ (w.heap.size + 1) 24 _ (0, 0) (.bool true) rfl rfl (hre.out.set _ _ _ _ _) rfl) rfl ?_
        have hMs : ∀ u1 u2 u3 u4 u5, MCell (((((wr.setCell ⟨w.heap.size + 1, 0, none⟩ u1).setCell ⟨w.heap.size + 1, 1, none⟩ u2).setCell ⟨w.heap.size + 1, 2, none⟩ u3).setCell ⟨w.heap.size + 1, 3, none⟩ u4).setCell ⟨w.heap.size + 1, 4, none⟩ u5) M lf := fun _ _ _ _ _ => (set5_other _ _ _ (fun e => hRM e.symm) _ _ _ _ _).trans hMC.out
        refine ⟨sv_set5 hS'.out (Nat.le_succ _) _ _ _ _ _, .inl ⟨hnod.out.1, hnod.out.2.1, ⟨_, rfl, ?_⟩, by rw [← hnod.out.2.2]; exact hMs _ _ _ _ _⟩⟩
        refine (hargs'.out.same fun b hb => set5_other wr _ b (hPR.out b hb) _ _ _ _ _).mono fun b hb => ?_
        rcases hb with hb | ⟨h1, h2⟩
        · exact .inl hb
        · exact .inr ⟨by omega, by rw [set5_size]; exact h2⟩

end Go.Proofs.YtbnnjbfbifihaaaGreatDoor

/-
  The contracts of package formula's maker: form, given assemble.
-/
namespace Go.Proofs.YtbnnjbfbifihaaaGreatDoor
open Go.RowKit

/-- what assemble has made is laid into form's result -/
theorem made_ok {P Q : Nat → Prop} {M left d : Nat} {F : Fm} {w W2 w3 : World} {r : Value} (h1 : F.nodes ≤ left) (h2 : F.depth ≤ d) (hSw : Sv w M W2) (hS3 : Sv W2 M w3) (hN : FAtP (NewP Q W2 w3) w3 r F) (hQ : ∀ b, Q b → NewP P w W2 b ∧ b ≠ w.heap.size + 1) (hlt : w.heap.size + 1 < W2.heap.size) (hMw : M < w.heap.size) (hM3 : MCell w3 M (left - F.nodes)) (u1 u2 u3 u4 u5 : Value) :
    MadePost P M F left d w (.returned (.tuple #[r, .bool true])) (((((w3.setCell ⟨w.heap.size + 1, 0, none⟩ u1).setCell ⟨w.heap.size + 1, 1, none⟩ u2).setCell ⟨w.heap.size + 1, 2, none⟩ u3).setCell ⟨w.heap.size + 1, 3, none⟩ u4).setCell ⟨w.heap.size + 1, 4, none⟩ u5) := by
  have hz := hS3.size
  refine ⟨sv_set5 (hSw.trans hS3) (Nat.le_succ _) _ _ _ _ _, .inl ⟨h1, h2, ⟨r, rfl, (hN.same fun b hb => set5_other w3 _ b ?_ _ _ _ _ _).mono fun b hb => ?_⟩, (set5_other _ _ _ (by omega) _ _ _ _ _).trans hM3⟩⟩
  · rcases hb with hb | ⟨hb, -⟩
    · exact (hQ b hb).2
    · omega
  · rcases hb with hb | ⟨hb, hb'⟩
    · rcases (hQ b hb).1 with h | ⟨h, h'⟩
      · exact .inl h
      · exact .inr ⟨h, by rw [set5_size]; omega⟩
    · have := hSw.size
      exact .inr ⟨by omega, by rw [set5_size]; exact hb'⟩
theorem made_no {P : Nat → Prop} {M left d z : Nat} {F : Fm} {w W2 w3 : World} (q : ¬ (F.nodes ≤ left ∧ F.depth ≤ d)) (hSw : Sv w M W2) (hS3 : Sv W2 M w3) (hMw : M < w.heap.size) (hM3 : MCell w3 M z) (u1 u2 u3 u4 u5 : Value) :
    MadePost P M F left d w (.returned (.tuple #[.agg #[.int .i64 0, .string ⟨#[]⟩, .int .i64 0, .int .i64 0, .slice none 0 0], .bool false])) (((((w3.setCell ⟨w.heap.size + 1, 0, none⟩ u1).setCell ⟨w.heap.size + 1, 1, none⟩ u2).setCell ⟨w.heap.size + 1, 2, none⟩ u3).setCell ⟨w.heap.size + 1, 3, none⟩ u4).setCell ⟨w.heap.size + 1, 4, none⟩ u5) :=
  ⟨sv_set5 (hSw.trans hS3) (Nat.le_succ _) _ _ _ _ _, .inr ⟨q, rfl, z, (set5_other _ _ _ (by omega) _ _ _ _ _).trans hM3⟩⟩

set_option maxRecDepth 100000 in
set_option maxHeartbeats 8000000 in
theorem form_of_asm (d : Nat) (hasm : AsmOk d) : FormOk d := by
  intro P M f v neg left w hE hM hM0 hP hv hn hle dz hdz
  obtain ⟨o, c, rfl, hfit, hA⟩ := hv.open
  obtain ⟨W0, hW0, hB0, hcf, hcr, hlt⟩ := fm2_open w (.int .i64 f.op) (.string f.name) (.int .i64 f.val) (.int .i64 f.bound) (.slice o f.args.length c) (.int .i64 0) (.string ⟨#[]⟩) (.int .i64 0) (.int .i64 0) (.slice none 0 0)
  have hres := hidi (fm2_res hW0)
  have hbox : Hid (W0.heap[w.heap.size]? = some (.cells #[.int .i64 f.op, .string f.name, .int .i64 f.val, .int .i64 f.bound, .slice o f.args.length c] 24 (0, 0))) := by
    unfold Hid
    rw [← hW0.out, Below.heap_alloc _ _ _ (by simp)]; exact heap_alloc_new w _
  have hMlt := hM.lt
  have hP0 : ∀ b, P b → b < W0.heap.size := fun b h => Nat.lt_of_lt_of_le (hP b h).1 hB0.size
  have hv0 := hv.kept hB0 (fun b h => (hP b h).1)
  have hE0 := hE.below hB0
  have hM00 := hM.below hB0
  have hdz' := hidi hdz
  clear hdz
  go_enter Tryz.func66, Tryz.ntmps66
  go_wp2_with fail
  rw [hW0.out]
  refine (unfold_any P f neg _ W0 hE0 hv0 hP0 hn).mono ?_
  rintro e w1 ⟨r, g, b, rfl, hN, hng, hpl, hF, hb1⟩
  obtain ⟨og, cg, rfl, hfg, hAg⟩ := hN.open
  have hbx1 : Hid (Res5 w1 w.heap.size) := ⟨_, _, _, _, _, (hb1.block _ (by omega)).trans hbox.out⟩
  have hre1 := hidi (hres.out.below hb1)
  obtain ⟨-, -, -, -, -, -, y0, y1, y2, y3, y4⟩ := hbx1.out.cells
  obtain ⟨b1, b2, b3, b4, b5, ⟨t0, t1, t2, t3, t4⟩, -⟩ := hbx1.out.cells
  have hz1 := hb1.size
  have hbs := hidi (hbx1.out.set (.int .i64 g.op) (.string g.name) (.int .i64 g.val) (.int .i64 g.bound) (.slice og g.args.length cg))
  have hF' := hidi hF
  have hnb := nodesB_self hng
  obtain ⟨W2, hW2⟩ : ∃ W2, Hid ((((((w1.setCell ⟨w.heap.size, 0, none⟩ (.int .i64 g.op)).setCell ⟨w.heap.size, 1, none⟩ (.string g.name)).setCell ⟨w.heap.size, 2, none⟩ (.int .i64 g.val)).setCell ⟨w.heap.size, 3, none⟩ (.int .i64 g.bound)).setCell ⟨w.heap.size, 4, none⟩ (.slice og g.args.length cg)) = W2) := ⟨_, hidi rfl⟩
  rw [hW2.out] at hbs
  have hset : ∀ k, k ≠ w.heap.size → W2.heap[k]? = w1.heap[k]? := fun k hk => by rw [← hW2.out]; exact set5_other _ _ _ hk _ _ _ _ _
  have hz2 : W2.heap.size = w1.heap.size := by rw [← hW2.out]; exact set5_size _ _ _ _ _ _ _
  have hS2 : Sv w M W2 := by rw [← hW2.out]; exact sv_set5 (Sv.of_below (hB0.trans (hb1.mono hB0.size))) (Nat.le_refl _) _ _ _ _ _
  have hM2 : MCell W2 M left := (hset M (by omega)).trans (hM00.below hb1)
  have hE2 := hE.sv hM0 hS2
  have hre2 : Hid (Res5 W2 (w.heap.size + 1)) := by
    obtain ⟨a1, a2, a3, a4, a5, hr⟩ := hre1.out
    exact ⟨a1, a2, a3, a4, a5, (hset _ (by omega)).trans hr⟩
  have hQ : ∀ k, NewP P W0 w1 k → k < W2.heap.size ∧ k ≠ M ∧ k ≠ w.heap.size ∧ k ≠ w.heap.size + 1 ∧ NewP P w W2 k := by
    intro k hk
    rcases hk with hk | ⟨h1, h2⟩
    · have := hP k hk
      exact ⟨by omega, this.2, by omega, by omega, .inl hk⟩
    · exact ⟨by omega, by omega, by omega, by omega, .inr ⟨by omega, by omega⟩⟩
  have hAg2 : FArgsP (NewP P W0 w1) W2 (.slice og g.args.length cg) g.args := hAg.same fun k hk => hset k (hQ k hk).2.2.1
  have hz2' := hidi hz2
  have hset' := hidi hset
  have hQ' := hidi hQ
  have hP' := hidi hP
  clear hset hQ hP hP0 hz2 hF
  cases b
  · have hFP : Hid (formP f neg = .mk g.op g.name g.val g.bound (g.args.map fun x => formP x false)) := by unfold Hid; rw [hF'.out, form_pos hnb hpl]
    go_wp2_with fail
    rw [hW2.out]
    refine (hasm (NewP P W0 w1) M g og g.args.length cg g.args (.slice og g.args.length cg) false left W2 hE2 hM2 hM0 (fun k hk => ⟨(hQ'.out k hk).1, (hQ'.out k hk).2.1⟩) hfg hAg2 (fun x hx => nodesB_arg hng hx) hle dz hdz'.out).mono ?_
    rintro e w3 ⟨hS3, ⟨q1, q2, ⟨r, rfl, hN3⟩, hM3⟩ | ⟨q, rfl, z, hM3⟩⟩
    · obtain ⟨o3, c3, rfl, -, -⟩ := hN3.open
      have hR3 : w3.heap[w.heap.size + 1]? = W2.heap[w.heap.size + 1]? := hS3.block _ (by have := hz2'.out; omega) (by omega)
      obtain ⟨n1, n2, n3, n4, n5, hn3⟩ := hre2.out
      have hR3' := hidi (hR3.trans hn3)
      clear hR3 hn3
      obtain ⟨-, -, -, -, -, -, m0, m1, m2, m3, m4⟩ := Res5.cells ⟨_, _, _, _, _, hR3'.out⟩
      obtain ⟨j1, j2, j3, j4, j5, ⟨i0, i1, i2, i3, i4⟩, -⟩ := Res5.cells ⟨_, _, _, _, _, hR3'.out⟩
      go_wp2_with fail
      refine bodyPost_ret (results_cell_tmp rfl _ _ (w.heap.size + 1) _ _ (0, 0) (.bool true) rfl rfl (Res5.set ⟨_, _, _, _, _, hR3'.out⟩ _ _ _ _ _) rfl) rfl ?_
      rw [hFP.out]
      exact made_ok q1 q2 hS2 hS3 hN3 (fun k hk => ⟨(hQ'.out k hk).2.2.2.2, (hQ'.out k hk).2.2.2.1⟩) (by have := hz2'.out; omega) hMlt hM3 _ _ _ _ _
    · have hR3 : w3.heap[w.heap.size + 1]? = W2.heap[w.heap.size + 1]? := hS3.block _ (by have := hz2'.out; omega) (by omega)
      obtain ⟨n1, n2, n3, n4, n5, hn3⟩ := hre2.out
      have hR3' := hidi (hR3.trans hn3)
      clear hR3 hn3
      obtain ⟨-, -, -, -, -, -, m0, m1, m2, m3, m4⟩ := Res5.cells ⟨_, _, _, _, _, hR3'.out⟩
      obtain ⟨j1, j2, j3, j4, j5, ⟨i0, i1, i2, i3, i4⟩, -⟩ := Res5.cells ⟨_, _, _, _, _, hR3'.out⟩
      go_wp2_with fail
      refine bodyPost_ret (results_cell_tmp rfl _ _ (w.heap.size + 1) _ _ (0, 0) (.bool false) rfl rfl (Res5.set ⟨_, _, _, _, _, hR3'.out⟩ _ _ _ _ _) rfl) rfl ?_
      rw [hFP.out]
      exact made_no q hS2 hS3 hMlt hM3 _ _ _ _ _
  · by_cases h3 : g.op = 3
    · have hFP : Hid (formP f neg = .mk (mkOp 4 []).op (mkOp 4 []).name (mkOp 4 []).val (mkOp 4 []).bound ([g].map fun x => formP x false)) := by
        unfold Hid; rw [hF'.out, (form_is h3).1]; show mkOp 4 [g] = .mk 4 ⟨#[]⟩ 0 0 [formP g false]; rw [(form_is h3).2]; rfl
      have h3' := hidi h3
      have hW3 := hW2
      rw [h3] at hW3
      go_wp2_with fail
      rw [hW3.out]
      obtain ⟨WA, hWA⟩ : ∃ WA, Hid (W2.alloc (.cells #[.int .i64 3, .string g.name, .int .i64 g.val, .int .i64 g.bound, .slice og g.args.length cg] 24) = WA) := ⟨_, hidi rfl⟩
      rw [hWA.out]
      have hBA : Below W2.heap.size W2 WA := by rw [← hWA.out]; exact below_box _ _
      have hrow : WA.heap[w1.heap.size]? = some (.cells #[.int .i64 g.op, .string g.name, .int .i64 g.val, .int .i64 g.bound, .slice og g.args.length cg] 24 (0, 0)) := by rw [← hWA.out, ← hz2'.out, h3'.out]; exact heap_alloc_new W2 _
      have hzA : WA.heap.size = w1.heap.size + 1 := by rw [← hWA.out, ← hz2'.out]; simp
      have hzw := hz2'.out
      have hargs : FArgsP (fun k => NewP P W0 w1 k ∨ k = w1.heap.size) WA (.slice (some ⟨w1.heap.size, 0, none⟩) 1 1) [g] := args_one (.inr rfl) hrow hfg ((hAg2.kept hBA (fun k hk => (hQ'.out k hk).1)).mono fun _ h => .inl h)
      refine (hasm (fun k => NewP P W0 w1 k ∨ k = w1.heap.size) M (mkOp 4 []) none 0 0 [g] (.slice (some ⟨w1.heap.size, 0, none⟩) 1 1) false left WA (hE2.below hBA) (hM2.below hBA) hM0 (fun k hk => ?_) (fits_op (by decide)) hargs (fun x hx => by rw [List.mem_singleton.1 hx]; exact hng) hle dz hdz'.out).mono ?_
      · rcases hk with hk | rfl
        · have := hQ'.out k hk
          exact ⟨by omega, this.2.1⟩
        · exact ⟨by omega, by omega⟩
      rintro e w3 ⟨hS3, ⟨q1, q2, ⟨r, rfl, hN3⟩, hM3⟩ | ⟨q, rfl, z, hM3⟩⟩
      · obtain ⟨o3, c3, rfl, -, -⟩ := hN3.open
        have hR3 : w3.heap[w.heap.size + 1]? = WA.heap[w.heap.size + 1]? := hS3.block _ (by omega) (by omega)
        obtain ⟨n1, n2, n3, n4, n5, hn3⟩ := hre2.out.below hBA
        have hR3' := hidi (hR3.trans hn3)
        clear hR3 hn3
        obtain ⟨-, -, -, -, -, -, m0, m1, m2, m3, m4⟩ := Res5.cells ⟨_, _, _, _, _, hR3'.out⟩
        obtain ⟨j1, j2, j3, j4, j5, ⟨i0, i1, i2, i3, i4⟩, -⟩ := Res5.cells ⟨_, _, _, _, _, hR3'.out⟩
        clear hrow
        go_wp2_with fail
        refine bodyPost_ret (results_cell_tmp rfl _ _ (w.heap.size + 1) _ _ (0, 0) (.bool true) rfl rfl (Res5.set ⟨_, _, _, _, _, hR3'.out⟩ _ _ _ _ _) rfl) rfl ?_
        rw [hFP.out]
        refine made_ok q1 q2 (hS2.next hBA) hS3 hN3 (fun k hk => ?_) (by omega) hMlt hM3 _ _ _ _ _
        rcases hk with hk | rfl
        · have h9 := hQ'.out k hk
          refine ⟨?_, h9.2.2.2.1⟩
          rcases h9.2.2.2.2 with h | ⟨h, h'⟩
          · exact .inl h
          · exact .inr ⟨h, by omega⟩
        · exact ⟨.inr ⟨by omega, by omega⟩, by omega⟩
      · have hR3 : w3.heap[w.heap.size + 1]? = WA.heap[w.heap.size + 1]? := hS3.block _ (by omega) (by omega)
        obtain ⟨n1, n2, n3, n4, n5, hn3⟩ := hre2.out.below hBA
        have hR3' := hidi (hR3.trans hn3)
        clear hR3 hn3
        obtain ⟨-, -, -, -, -, -, m0, m1, m2, m3, m4⟩ := Res5.cells ⟨_, _, _, _, _, hR3'.out⟩
        obtain ⟨j1, j2, j3, j4, j5, ⟨i0, i1, i2, i3, i4⟩, -⟩ := Res5.cells ⟨_, _, _, _, _, hR3'.out⟩
        clear hrow
        go_wp2_with fail
        refine bodyPost_ret (results_cell_tmp rfl _ _ (w.heap.size + 1) _ _ (0, 0) (.bool false) rfl rfl (Res5.set ⟨_, _, _, _, _, hR3'.out⟩ _ _ _ _ _) rfl) rfl ?_
        rw [hFP.out]
        exact made_no q (hS2.next hBA) hS3 hMlt hM3 _ _ _ _ _
    · have hFP := hidi (hF'.out.trans (form_neg hnb hpl h3))
      have h3' : (g.op == 3) = false := beq_eq_false_iff_ne.2 h3
      have hzw := hz2'.out
      have hval : 0 ≤ g.val ∧ g.val ≤ 3 := by
        obtain ⟨-, k2, k3, -⟩ := nodeB_flds hnb
        refine ⟨k2, Int.le_trans k3 ?_⟩
        clear k3
        rcases hpl with e | e | e | e | e | e | e | e | e | e | e <;> rw [e] <;> decide
      have hD : Below W2.heap.size W2 W2.drew := (Below.refl _ W2).drew
      have hC1 := hidi (opposite_any (NewP P W0 w1) (.agg #[.int .i64 g.op, .string g.name, .int .i64 g.val, .int .i64 g.bound, .slice og g.args.length cg]) g W2.drew (hE2.below hD) ⟨_, rfl, hfg, (hAg2.kept hD (fun k hk => (hQ'.out k hk).1))⟩ ((knownB_iff _).2 (nodeB_known hnb)) hval)
      have hSB : Hid (∀ W, Below W2.heap.size W2 W → W.cell? ⟨w.heap.size, 0, none⟩ = some (.int .i64 g.op) ∧ W.cell? ⟨w.heap.size, 1, none⟩ = some (.string g.name) ∧ W.cell? ⟨w.heap.size, 2, none⟩ = some (.int .i64 g.val) ∧ W.cell? ⟨w.heap.size, 3, none⟩ = some (.int .i64 g.bound) ∧ W.cell? ⟨w.heap.size, 4, none⟩ = some (.slice og g.args.length cg) ∧ Res5 W (w.heap.size + 1)) := by
        intro W hB
        have hr := hbs.out
        have hlt2 : w.heap.size < W2.heap.size := by omega
        exact ⟨(hB.cell (p := ⟨w.heap.size, 0, none⟩) hlt2).trans (cell_of_row W2 _ 0 _ _ _ hr), (hB.cell (p := ⟨w.heap.size, 1, none⟩) hlt2).trans (cell_of_row W2 _ 1 _ _ _ hr), (hB.cell (p := ⟨w.heap.size, 2, none⟩) hlt2).trans (cell_of_row W2 _ 2 _ _ _ hr), (hB.cell (p := ⟨w.heap.size, 3, none⟩) hlt2).trans (cell_of_row W2 _ 3 _ _ _ hr), (hB.cell (p := ⟨w.heap.size, 4, none⟩) hlt2).trans (cell_of_row W2 _ 4 _ _ _ hr), hre2.out.below hB⟩
      have hk0 : Hid (W2.drew.cell? ⟨w.heap.size, 0, none⟩ = some (.int .i64 g.op) ∧ W2.drew.cell? ⟨w.heap.size, 1, none⟩ = some (.string g.name) ∧ W2.drew.cell? ⟨w.heap.size, 2, none⟩ = some (.int .i64 g.val) ∧ W2.drew.cell? ⟨w.heap.size, 3, none⟩ = some (.int .i64 g.bound) ∧ W2.drew.cell? ⟨w.heap.size, 4, none⟩ = some (.slice og g.args.length cg) ∧ Res5 W2.drew (w.heap.size + 1)) := hSB.out _ hD
      have hk1 : Hid (∀ W, Below W2.drew.heap.size W2.drew W → W.cell? ⟨w.heap.size, 0, none⟩ = some (.int .i64 g.op) ∧ W.cell? ⟨w.heap.size, 1, none⟩ = some (.string g.name) ∧ W.cell? ⟨w.heap.size, 2, none⟩ = some (.int .i64 g.val) ∧ W.cell? ⟨w.heap.size, 3, none⟩ = some (.int .i64 g.bound) ∧ W.cell? ⟨w.heap.size, 4, none⟩ = some (.slice og g.args.length cg) ∧ Res5 W (w.heap.size + 1)) := fun W hB => hSB.out _ (hD.trans hB)
      have hk2 : Hid (∀ W W', Below W2.drew.heap.size W2.drew W → Sv W M W' → W'.cell? ⟨w.heap.size, 0, none⟩ = some (.int .i64 g.op) ∧ W'.cell? ⟨w.heap.size, 1, none⟩ = some (.string g.name) ∧ W'.cell? ⟨w.heap.size, 2, none⟩ = some (.int .i64 g.val) ∧ W'.cell? ⟨w.heap.size, 3, none⟩ = some (.int .i64 g.bound) ∧ W'.cell? ⟨w.heap.size, 4, none⟩ = some (.slice og g.args.length cg) ∧ Res5 W' (w.heap.size + 1)) := by
        intro W W' hB hS
        obtain ⟨a0, a1, a2, a3, a4, n1, n2, n3, n4, n5, a5⟩ := hSB.out _ (hD.trans hB)
        have hs : W2.heap.size ≤ W.heap.size := hB.size
        have hn : w.heap.size ≠ M := by omega
        exact ⟨hS.cell (by omega) hn a0, hS.cell (by omega) hn a1, hS.cell (by omega) hn a2, hS.cell (by omega) hn a3, hS.cell (by omega) hn a4, _, _, _, _, _, (hS.block _ (by omega) (by omega)).trans a5⟩
      have hk3 : Hid (∀ W u1 u2 u3 u4 u5, (W.cell? ⟨w.heap.size, 0, none⟩ = some (.int .i64 g.op) ∧ W.cell? ⟨w.heap.size, 1, none⟩ = some (.string g.name) ∧ W.cell? ⟨w.heap.size, 2, none⟩ = some (.int .i64 g.val) ∧ W.cell? ⟨w.heap.size, 3, none⟩ = some (.int .i64 g.bound) ∧ W.cell? ⟨w.heap.size, 4, none⟩ = some (.slice og g.args.length cg) ∧ Res5 W (w.heap.size + 1)) → (((((W.setCell ⟨w.heap.size + 1, 0, none⟩ u1).setCell ⟨w.heap.size + 1, 1, none⟩ u2).setCell ⟨w.heap.size + 1, 2, none⟩ u3).setCell ⟨w.heap.size + 1, 3, none⟩ u4).setCell ⟨w.heap.size + 1, 4, none⟩ u5).cell? ⟨w.heap.size, 0, none⟩ = some (.int .i64 g.op) ∧ (((((W.setCell ⟨w.heap.size + 1, 0, none⟩ u1).setCell ⟨w.heap.size + 1, 1, none⟩ u2).setCell ⟨w.heap.size + 1, 2, none⟩ u3).setCell ⟨w.heap.size + 1, 3, none⟩ u4).setCell ⟨w.heap.size + 1, 4, none⟩ u5).cell? ⟨w.heap.size, 1, none⟩ = some (.string g.name) ∧ (((((W.setCell ⟨w.heap.size + 1, 0, none⟩ u1).setCell ⟨w.heap.size + 1, 1, none⟩ u2).setCell ⟨w.heap.size + 1, 2, none⟩ u3).setCell ⟨w.heap.size + 1, 3, none⟩ u4).setCell ⟨w.heap.size + 1, 4, none⟩ u5).cell? ⟨w.heap.size, 2, none⟩ = some (.int .i64 g.val) ∧ (((((W.setCell ⟨w.heap.size + 1, 0, none⟩ u1).setCell ⟨w.heap.size + 1, 1, none⟩ u2).setCell ⟨w.heap.size + 1, 2, none⟩ u3).setCell ⟨w.heap.size + 1, 3, none⟩ u4).setCell ⟨w.heap.size + 1, 4, none⟩ u5).cell? ⟨w.heap.size, 3, none⟩ = some (.int .i64 g.bound) ∧ (((((W.setCell ⟨w.heap.size + 1, 0, none⟩ u1).setCell ⟨w.heap.size + 1, 1, none⟩ u2).setCell ⟨w.heap.size + 1, 2, none⟩ u3).setCell ⟨w.heap.size + 1, 3, none⟩ u4).setCell ⟨w.heap.size + 1, 4, none⟩ u5).cell? ⟨w.heap.size, 4, none⟩ = some (.slice og g.args.length cg) ∧ Res5 (((((W.setCell ⟨w.heap.size + 1, 0, none⟩ u1).setCell ⟨w.heap.size + 1, 1, none⟩ u2).setCell ⟨w.heap.size + 1, 2, none⟩ u3).setCell ⟨w.heap.size + 1, 3, none⟩ u4).setCell ⟨w.heap.size + 1, 4, none⟩ u5) (w.heap.size + 1)) := by
        rintro W u1 u2 u3 u4 u5 ⟨a0, a1, a2, a3, a4, a5⟩
        have hb : ∀ j, (((((W.setCell ⟨w.heap.size + 1, 0, none⟩ u1).setCell ⟨w.heap.size + 1, 1, none⟩ u2).setCell ⟨w.heap.size + 1, 2, none⟩ u3).setCell ⟨w.heap.size + 1, 3, none⟩ u4).setCell ⟨w.heap.size + 1, 4, none⟩ u5).cell? ⟨w.heap.size, j, none⟩ = W.cell? ⟨w.heap.size, j, none⟩ := fun j => World.cell?_of_block (set5_other W (w.heap.size + 1) w.heap.size (by omega) _ _ _ _ _)
        exact ⟨(hb 0).trans a0, (hb 1).trans a1, (hb 2).trans a2, (hb 3).trans a3, (hb 4).trans a4, res_set a5 _ _ _ _ _⟩
      have hC2 : Hid (∀ W oo nn cc, Below W2.drew.heap.size W2.drew W → Fits (oppF g) → Calls Tryz.prog 93 #[.pointer (some ⟨M, 0, none⟩), .agg #[.int .i64 (oppF g).op, .string (oppF g).name, .int .i64 (oppF g).val, .int .i64 (oppF g).bound, .slice oo nn cc], .slice og g.args.length cg, .bool true, .int .i64 dz] W
          fun e w' => ∃ p1 p2 p3 p4 p5 p6 p7 bo, e = .returned (.tuple #[.agg #[.int .i64 p1, .string p2, .int .i64 p3, .int .i64 p4, .slice p5 p6 p7], .bool bo]) ∧ Sv W M w' ∧
            Hid (∀ u1 u2 u3 u4 u5, MadePost P M (formP f neg) left d w (.returned (.tuple #[.agg #[.int .i64 p1, .string p2, .int .i64 p3, .int .i64 p4, .slice p5 p6 p7], .bool bo])) (((((w'.setCell ⟨w.heap.size + 1, 0, none⟩ u1).setCell ⟨w.heap.size + 1, 1, none⟩ u2).setCell ⟨w.heap.size + 1, 2, none⟩ u3).setCell ⟨w.heap.size + 1, 3, none⟩ u4).setCell ⟨w.heap.size + 1, 4, none⟩ u5))) := by
        intro W oo nn cc hB hfo
        have hBW : Below W2.heap.size W2 W := hD.trans hB
        have hs := hBW.size
        refine (hasm (NewP P W0 w1) M (oppF g) oo nn cc g.args (.slice og g.args.length cg) true left W (hE2.below hBW) (hM2.below hBW) hM0 (fun k hk => ⟨Nat.lt_of_lt_of_le (hQ'.out k hk).1 hs, (hQ'.out k hk).2.1⟩) hfo (hAg2.kept hBW (fun k hk => (hQ'.out k hk).1)) (fun x hx => nodesB_arg hng hx) hle dz hdz'.out).mono ?_
        rintro e w3 ⟨hS3, ⟨q1, q2, ⟨r, rfl, hN3⟩, hM3⟩ | ⟨q, rfl, z, hM3⟩⟩
        · obtain ⟨o3, c3, rfl, -, -⟩ := hN3.open
          refine ⟨_, _, _, _, _, _, _, _, rfl, hS3, fun u1 u2 u3 u4 u5 => ?_⟩
          rw [hFP.out]
          refine made_ok q1 q2 (hS2.next hBW) hS3 hN3 (fun k hk => ?_) (by omega) hMlt hM3 _ _ _ _ _
          have h9 := hQ'.out k hk
          refine ⟨?_, h9.2.2.2.1⟩
          rcases h9.2.2.2.2 with h | ⟨h, h'⟩
          · exact .inl h
          · exact .inr ⟨h, by omega⟩
        · refine ⟨_, _, _, _, _, _, _, _, rfl, hS3, fun u1 u2 u3 u4 u5 => ?_⟩
          rw [hFP.out]
          exact made_no q (hS2.next hBW) hS3 hMlt hM3 _ _ _ _ _
      clear hD
      go_wp2_with fail
      rw [hW2.out]
      go_region_held3 (fun W => W.cell? ⟨w.heap.size, 0, none⟩ = some (.int .i64 g.op) ∧ W.cell? ⟨w.heap.size, 1, none⟩ = some (.string g.name) ∧ W.cell? ⟨w.heap.size, 2, none⟩ = some (.int .i64 g.val) ∧ W.cell? ⟨w.heap.size, 3, none⟩ = some (.int .i64 g.bound) ∧ W.cell? ⟨w.heap.size, 4, none⟩ = some (.slice og g.args.length cg) ∧ Res5 W (w.heap.size + 1))
        (first | with_reducible exact hk0.out | with_reducible exact hk1.out _ hb9 | with_reducible exact hk2.out _ _ hb8.out hS9 | with_reducible exact hk3.out _ _ _ _ _ _ (by assumption))
        (first | (go_at_call 94; (with_reducible refine hC1.out.mono ?_); rintro e w4 ⟨r4, rfl, hN4, hb9⟩; obtain ⟨o4, c4, rfl, hf4, -⟩ := hN4.open; have hb8 := hidi hb9; have hf4' := hidi hf4) | (go_at_call 93; (with_reducible refine (hC2.out _ _ _ _ hb8.out hf4'.out).mono ?_); rintro e w5 ⟨p1, p2, p3, p4, p5, p6, p7, bo, rfl, hS9, hfin⟩; have hr1 := hidi (hk2.out _ _ hb8.out hS9).2.2.2.2.2; obtain ⟨a1, a2, a3, a4, a5, ⟨z0, z1, z2, z3, z4⟩, v0, v1, v2, v3, v4⟩ := hr1.out.cells))
      go_wp2_with fail
      refine bodyPost_ret (results_cell_tmp rfl _ _ (w.heap.size + 1) _ _ (0, 0) (.bool bo) rfl rfl (hr1.out.set _ _ _ _ _) rfl) rfl ?_
      exact hfin.out _ _ _ _ _

end Go.Proofs.YtbnnjbfbifihaaaGreatDoor

/-
  The contracts of package formula's form (whole) and Not.
-/
namespace Go.Proofs.YtbnnjbfbifihaaaGreatDoor
open Go.RowKit

theorem form_ok : ∀ d : Nat, d ≤ 1000 → FormOk d := by
  intro d
  induction d with
  | zero => exact fun _ => form_of_asm 0 (asm_of_form 0 (by decide) (.inl rfl))
  | succ d ih => exact fun h => form_of_asm (d + 1) (asm_of_form (d + 1) h (.inr (ih (by omega))))

/-- the zero formula; Not's result -/

def notF (f : Fm) : Fm := if looseB f = true ∧ (formP f true).nodes ≤ 400 ∧ (formP f true).depth ≤ 60 then formP f true else zeroF

/-- what form and assemble hand back, in one form -/
theorem MadePost.one {P : Nat → Prop} {M left d : Nat} {F : Fm} {w w' : World} {e : Ending} (h : MadePost P M F left d w e w') :
    Sv w M w' ∧ ∃ (G : Fm) (o : Option Addr) (c : Nat) (bo : Bool), e = .returned (.tuple #[.agg #[.int .i64 G.op, .string G.name, .int .i64 G.val, .int .i64 G.bound, .slice o G.args.length c], .bool bo]) ∧ Fits G ∧ FArgsP (NewP P w w') w' (.slice o G.args.length c) G.args ∧
      Hid (G = if F.nodes ≤ left ∧ F.depth ≤ d then F else zeroF) ∧ Hid (bo = decide (F.nodes ≤ left ∧ F.depth ≤ d)) := by
  obtain ⟨hS, ⟨q1, q2, ⟨r, rfl, hN⟩, -⟩ | ⟨q, rfl, -⟩⟩ := h
  · obtain ⟨o, c, rfl, hf, hA⟩ := hN.open
    exact ⟨hS, F, o, c, true, rfl, hf, hA, hidi (by rw [if_pos ⟨q1, q2⟩]), hidi (decide_eq_true ⟨q1, q2⟩).symm⟩
  · exact ⟨hS, zeroF, none, 0, false, rfl, fits_op (by decide), .nil _ _, hidi (by rw [if_neg q]), hidi (decide_eq_false q).symm⟩

set_option maxRecDepth 100000 in
set_option maxHeartbeats 4000000 in
theorem not_any (P : Nat → Prop) (f : Fm) (v : Value) (w : World) (hE : Env w) (hv : FAtP P w v f) (hP : ∀ b, P b → b < w.heap.size) (hn : f.nodes ≤ 999999) :
    Calls Tryz.prog 33 #[v] w fun e w' => ∃ r, e = .returned r ∧ FAtP (NewP P w w') w' r (notF f) ∧ Below w.heap.size w w' := by
  obtain ⟨o, c, rfl, hfit, hA⟩ := hv.open
  obtain ⟨W0, hW0, hB0, hcf, hcr, hlt⟩ := fm2_open w (.int .i64 f.op) (.string f.name) (.int .i64 f.val) (.int .i64 f.bound) (.slice o f.args.length c) (.int .i64 0) (.string ⟨#[]⟩) (.int .i64 0) (.int .i64 0) (.slice none 0 0)
  have hres := hidi (fm2_res hW0)
  have hbox : Hid (W0.heap[w.heap.size]? = some (.cells #[.int .i64 f.op, .string f.name, .int .i64 f.val, .int .i64 f.bound, .slice o f.args.length c] 24 (0, 0))) := by
    unfold Hid
    rw [← hW0.out, Below.heap_alloc _ _ _ (by simp)]; exact heap_alloc_new w _
  have hv0 := hv.kept hB0 hP
  have hvb : FAt w.heap.size W0 (.agg #[.int .i64 f.op, .string f.name, .int .i64 f.val, .int .i64 f.bound, .slice o f.args.length c]) f := hv0.mono hP
  have hE0 := hE.below hB0
  obtain ⟨lb, hlb⟩ : ∃ lb, Hid (looseB f = lb) := ⟨_, hidi rfl⟩
  have hbb := hbox.out
  rw [← hW0.out] at hbb
  have x0 := cell_of_row _ w.heap.size 0 _ _ _ hbb
  have x1 := cell_of_row _ w.heap.size 1 _ _ _ hbb
  have x2 := cell_of_row _ w.heap.size 2 _ _ _ hbb
  have x3 := cell_of_row _ w.heap.size 3 _ _ _ hbb
  have x4 := cell_of_row _ w.heap.size 4 _ _ _ hbb
  clear hbb
  go_enter Tryz.func33, Tryz.ntmps33
  go_wp2_with fail
  rw [hW0.out]
  refine (loose_any f w.heap.size _ W0 hvb hB0.size hE0 hn).mono ?_
  rintro e w1 ⟨rfl, hb1⟩
  rw [hlb.out]
  have hbx1 := hidi ((hb1.block _ (by omega)).trans hbox.out)
  have hre1 := hidi (hres.out.below hb1)
  have hBw := hB0.trans (hb1.mono hB0.size)
  have hz1 := hBw.size
  have hzz := hb1.size
  obtain ⟨-, -, -, -, -, -, m0, m1, m2, m3, m4⟩ := hre1.out.cells
  obtain ⟨j1, j2, j3, j4, j5, ⟨i0, i1, i2, i3, i4⟩, -⟩ := hre1.out.cells
  cases lb
  · have hN : Hid (notF f = zeroF) := by unfold Hid notF; rw [hlb.out]; simp
    go_wp2_with fail
    refine bodyPost_ret (results_cell_row rfl _ _ (w.heap.size + 1) 24 _ (0, 0) _ rfl (hre1.out.set _ _ _ _ _) Tryz.underlying24 rfl fmSize) rfl ?_
    rw [hN.out]
    have hS : Sv w (w.heap.size + 1) (((((w1.setCell ⟨w.heap.size + 1, 0, none⟩ (.int .i64 0)).setCell ⟨w.heap.size + 1, 1, none⟩ (.string ⟨#[]⟩)).setCell ⟨w.heap.size + 1, 2, none⟩ (.int .i64 0)).setCell ⟨w.heap.size + 1, 3, none⟩ (.int .i64 0)).setCell ⟨w.heap.size + 1, 4, none⟩ (.slice none 0 0)) := sv_set5 (Sv.of_below hBw) (by omega) _ _ _ _ _
    exact ⟨_, rfl, ⟨_, rfl, fits_op (by decide), .nil _ _⟩, hS.below (Below.refl _ w) (Nat.le_succ _)⟩
  · obtain ⟨WM, hWM⟩ : ∃ WM, Hid (w1.alloc (.cells #[.int .i64 400] 70) = WM) := ⟨_, hidi rfl⟩
    have hBM : Below w1.heap.size w1 WM := by rw [← hWM.out]; exact below_box _ _
    have hMC : MCell WM w1.heap.size 400 := by rw [← hWM.out]; exact heap_alloc_new w1 _
    have hzM : WM.heap.size = w1.heap.size + 1 := by rw [← hWM.out]; simp
    have hbxM := hidi ((hBM.block _ (by omega)).trans hbx1.out)
    have hreM := hidi (hre1.out.below hBM)
    have y0 := cell_of_row _ w.heap.size 0 _ _ _ hbxM.out
    have y1 := cell_of_row _ w.heap.size 1 _ _ _ hbxM.out
    have y2 := cell_of_row _ w.heap.size 2 _ _ _ hbxM.out
    have y3 := cell_of_row _ w.heap.size 3 _ _ _ hbxM.out
    have y4 := cell_of_row _ w.heap.size 4 _ _ _ hbxM.out
    rw [← hWM.out] at y0 y1 y2 y3 y4
    have hBwM := hBw.trans (hBM.mono hz1)
    have hvM := hv.kept hBwM hP
    have hnB : nodesB f = true := by
      have h := hlb.out
      unfold looseB at h
      simp only [Bool.and_eq_true] at h
      exact h.1.1.2
    have hEM := hE.below hBwM
    have hform := form_ok 60 (by decide) P w1.heap.size f (.agg #[.int .i64 f.op, .string f.name, .int .i64 f.val, .int .i64 f.bound, .slice o f.args.length c]) true 400 WM hEM hMC (by omega) (fun b hb => ⟨by have := hP b hb; omega, by have := hP b hb; omega⟩) hvM hnB (by decide) 60 rfl
    go_wp2_with fail
    rw [hWM.out]
    refine hform.mono ?_
    intro e w3 hr3
    obtain ⟨hS3, G, o3, c3, bo, rfl, hfG, hAG, hG, -⟩ := hr3.one
    obtain ⟨W4, hW4⟩ : ∃ W4, Hid (w3.alloc (.cells #[.int .i64 G.op, .string G.name, .int .i64 G.val, .int .i64 G.bound, .slice o3 G.args.length c3] 24) = W4) := ⟨_, hidi rfl⟩
    have hB4 : Below w3.heap.size w3 W4 := by rw [← hW4.out]; exact below_box _ _
    have hz3 := hS3.size
    have hre4 : Hid (Res5 W4 (w.heap.size + 1)) := by
      obtain ⟨n1, n2, n3, n4, n5, hn⟩ := hreM.out
      exact ⟨n1, n2, n3, n4, n5, (hB4.block _ (by omega)).trans ((hS3.block _ (by omega) (by omega)).trans hn)⟩
    obtain ⟨-, -, -, -, -, -, r0, r1, r2, r3, r4⟩ := hre4.out.cells
    obtain ⟨b1, b2, b3, b4, b5, ⟨s0, s1, s2, s3, s4⟩, -⟩ := hre4.out.cells
    have hrow : W4.heap[w3.heap.size]? = some (.cells #[.int .i64 G.op, .string G.name, .int .i64 G.val, .int .i64 G.bound, .slice o3 G.args.length c3] 24 (0, 0)) := by rw [← hW4.out]; exact heap_alloc_new w3 _
    have g0 := cell_of_row _ w3.heap.size 0 _ _ _ hrow
    have g1 := cell_of_row _ w3.heap.size 1 _ _ _ hrow
    have g2 := cell_of_row _ w3.heap.size 2 _ _ _ hrow
    have g3 := cell_of_row _ w3.heap.size 3 _ _ _ hrow
    have g4 := cell_of_row _ w3.heap.size 4 _ _ _ hrow
    clear hrow
    rw [← hW4.out] at r0 r1 r2 r3 r4 s0 s1 s2 s3 s4 g0 g1 g2 g3 g4
    have hN : Hid (notF f = G) := by
      have hg := hG.out
      have hl := hlb.out
      unfold Hid notF
      rw [hg]
      simp only [hl, true_and]
    have hSF : Sv w (w.heap.size + 1) W4 := ⟨hB4.os.trans (hS3.os.trans hBwM.os), hB4.tape.trans (hS3.tape.trans hBwM.tape), hB4.output.trans (hS3.output.trans hBwM.output), by have := hB4.size; omega, fun b hb _ => (hB4.block b (by omega)).trans ((hS3.block b (by omega) (by omega)).trans (hBwM.block b hb))⟩
    have hz4 : W4.heap.size = w3.heap.size + 1 := by rw [← hW4.out]; simp
    have hAG4 := hAG.kept hB4 (fun b hb => by
      rcases hb with hb | ⟨-, hb⟩
      · have := hP b hb; omega
      · exact hb)
    have hfin : Hid (∀ u1 u2 u3 u4 u5, FArgsP (NewP P w (((((W4.setCell ⟨w.heap.size + 1, 0, none⟩ u1).setCell ⟨w.heap.size + 1, 1, none⟩ u2).setCell ⟨w.heap.size + 1, 2, none⟩ u3).setCell ⟨w.heap.size + 1, 3, none⟩ u4).setCell ⟨w.heap.size + 1, 4, none⟩ u5)) (((((W4.setCell ⟨w.heap.size + 1, 0, none⟩ u1).setCell ⟨w.heap.size + 1, 1, none⟩ u2).setCell ⟨w.heap.size + 1, 2, none⟩ u3).setCell ⟨w.heap.size + 1, 3, none⟩ u4).setCell ⟨w.heap.size + 1, 4, none⟩ u5) (.slice o3 G.args.length c3) G.args) := by
      intro u1 u2 u3 u4 u5
      refine (hAG4.same fun b hb => set5_other W4 _ b ?_ _ _ _ _ _).mono fun b hb => ?_
      · rcases hb with hb | ⟨hb, -⟩
        · have := hP b hb; omega
        · omega
      · rcases hb with hb | ⟨hb, hb'⟩
        · exact .inl hb
        · exact .inr ⟨by omega, by rw [set5_size]; omega⟩
    go_wp2_with fail
    simp only [hW4.out]
    refine bodyPost_ret (results_cell_row rfl _ _ (w.heap.size + 1) 24 _ (0, 0) _ rfl (hre4.out.set _ _ _ _ _) Tryz.underlying24 rfl fmSize) rfl ?_
    rw [hN.out]
    have hS := sv_set5 hSF (Nat.le_succ _) (.int .i64 G.op) (.string G.name) (.int .i64 G.val) (.int .i64 G.bound) (.slice o3 G.args.length c3)
    exact ⟨_, rfl, ⟨_, rfl, hfG, hfin.out _ _ _ _ _⟩, hS.below (Below.refl _ w) (Nat.le_succ _)⟩

end Go.Proofs.YtbnnjbfbifihaaaGreatDoor

/-
  The contract of package formula's Kernel.
-/
namespace Go.Proofs.YtbnnjbfbifihaaaGreatDoor
open Go.RowKit

/-- Kernel's result and error -/
def kernelF (f : Fm) : Fm × Int := if fvalidB f = true ∧ layB f = true then (if (formP f false).nodes ≤ 60 ∧ (formP f false).depth ≤ 20 then (formP f false, 0) else (zeroF, 2)) else (zeroF, 30)

set_option maxRecDepth 100000 in
set_option maxHeartbeats 4000000 in
theorem kernel_any (P : Nat → Prop) (f : Fm) (v : Value) (w : World) (hE : Env w) (hv : FAtP P w v f) (hP : ∀ b, P b → b < w.heap.size) (hn : f.nodes ≤ 999999) :
    Calls Tryz.prog 30 #[v] w fun e w' => ∃ r, e = .returned (.tuple #[r, .int .i64 (kernelF f).2]) ∧ FAtP (NewP P w w') w' r (kernelF f).1 ∧ Below w.heap.size w w' := by
  obtain ⟨o, c, rfl, hfit, hA⟩ := hv.open
  obtain ⟨W0, hW0, hB0, hcf, hcr, hlt⟩ := fm2_open w (.int .i64 f.op) (.string f.name) (.int .i64 f.val) (.int .i64 f.bound) (.slice o f.args.length c) (.int .i64 0) (.string ⟨#[]⟩) (.int .i64 0) (.int .i64 0) (.slice none 0 0)
  have hres := hidi (fm2_res hW0)
  have hbox : Hid (W0.heap[w.heap.size]? = some (.cells #[.int .i64 f.op, .string f.name, .int .i64 f.val, .int .i64 f.bound, .slice o f.args.length c] 24 (0, 0))) := by
    unfold Hid
    rw [← hW0.out, Below.heap_alloc _ _ _ (by simp)]; exact heap_alloc_new w _
  have hv0 := hv.kept hB0 hP
  have hvb : FAt w.heap.size W0 (.agg #[.int .i64 f.op, .string f.name, .int .i64 f.val, .int .i64 f.bound, .slice o f.args.length c]) f := hv0.mono hP
  have hE0 := hE.below hB0
  obtain ⟨lb, hlb⟩ : ∃ lb, Hid (fvalidB f = lb) := ⟨_, hidi rfl⟩
  obtain ⟨yb, hyb⟩ : ∃ yb, Hid (layB f = yb) := ⟨_, hidi rfl⟩
  have hnd : f.depth ≤ 999999 := Nat.le_trans f.depth_le_nodes hn
  have hbb := hbox.out
  rw [← hW0.out] at hbb
  have x0 := cell_of_row _ w.heap.size 0 _ _ _ hbb
  have x1 := cell_of_row _ w.heap.size 1 _ _ _ hbb
  have x2 := cell_of_row _ w.heap.size 2 _ _ _ hbb
  have x3 := cell_of_row _ w.heap.size 3 _ _ _ hbb
  have x4 := cell_of_row _ w.heap.size 4 _ _ _ hbb
  clear hbb
  go_enter Tryz.func30, Tryz.ntmps30
  go_wp2_with fail
  rw [hW0.out]
  refine (fvalid_any f w.heap.size _ W0 hvb hB0.size hE0 hn).mono ?_
  rintro e w1 ⟨rfl, hb1⟩
  rw [hlb.out]
  have hbx1 := hidi ((hb1.block _ (by omega)).trans hbox.out)
  have hre1 := hidi (hres.out.below hb1)
  have hBw := hB0.trans (hb1.mono hB0.size)
  have hz1 := hBw.size
  have hzz := hb1.size
  have y0 := cell_of_row _ w.heap.size 0 _ _ _ hbx1.out
  have y1 := cell_of_row _ w.heap.size 1 _ _ _ hbx1.out
  have y2 := cell_of_row _ w.heap.size 2 _ _ _ hbx1.out
  have y3 := cell_of_row _ w.heap.size 3 _ _ _ hbx1.out
  have y4 := cell_of_row _ w.heap.size 4 _ _ _ hbx1.out
  cases lb
  · obtain ⟨-, -, -, -, -, -, m0, m1, m2, m3, m4⟩ := hre1.out.cells
    obtain ⟨j1, j2, j3, j4, j5, ⟨i0, i1, i2, i3, i4⟩, -⟩ := hre1.out.cells
    go_wp2_with fail
    have hN : Hid (kernelF f = (zeroF, 30)) := by unfold Hid kernelF; rw [hlb.out]; simp
    (try simp only [Exit.inBlock, Exit.then])
    refine bodyPost_ret (results_cell_tmp rfl _ _ (w.heap.size + 1) _ _ (0, 0) (.int .i64 30) rfl rfl (hre1.out.set _ _ _ _ _) rfl) rfl ?_
    rw [hN.out]
    have hS : Sv w (w.heap.size + 1) (((((w1.setCell ⟨w.heap.size + 1, 0, none⟩ (.int .i64 0)).setCell ⟨w.heap.size + 1, 1, none⟩ (.string ⟨#[]⟩)).setCell ⟨w.heap.size + 1, 2, none⟩ (.int .i64 0)).setCell ⟨w.heap.size + 1, 3, none⟩ (.int .i64 0)).setCell ⟨w.heap.size + 1, 4, none⟩ (.slice none 0 0)) := sv_set5 (Sv.of_below hBw) (by omega) _ _ _ _ _
    exact ⟨_, rfl, ⟨_, rfl, fits_op (by decide), .nil _ _⟩, hS.below (Below.refl _ w) (Nat.le_succ _)⟩
  · go_wp2_with fail
    refine (layered_any f w1.heap.size _ w1 ((hv.kept hBw hP).mono fun b hb => by have := hP b hb; omega) (Nat.le_refl _) (hE.below hBw) hnd).mono ?_
    rintro e w5 ⟨rfl, hb5⟩
    rw [hyb.out]
    have hbx5 := hidi ((hb5.block _ (by omega)).trans hbx1.out)
    have hre5 := hidi (hre1.out.below hb5)
    have hBv := hBw.trans (hb5.mono hz1)
    have hz5 := hBv.size
    have hzz5 := hb5.size
    obtain ⟨-, -, -, -, -, -, m0, m1, m2, m3, m4⟩ := hre5.out.cells
    obtain ⟨j1, j2, j3, j4, j5, ⟨i0, i1, i2, i3, i4⟩, -⟩ := hre5.out.cells
    cases yb
    · go_wp2_with fail
      have hN : Hid (kernelF f = (zeroF, 30)) := by unfold Hid kernelF; rw [hyb.out]; simp
      (try simp only [Exit.inBlock, Exit.then])
      refine bodyPost_ret (results_cell_tmp rfl _ _ (w.heap.size + 1) _ _ (0, 0) (.int .i64 30) rfl rfl (hre5.out.set _ _ _ _ _) rfl) rfl ?_
      rw [hN.out]
      have hS : Sv w (w.heap.size + 1) (((((w5.setCell ⟨w.heap.size + 1, 0, none⟩ (.int .i64 0)).setCell ⟨w.heap.size + 1, 1, none⟩ (.string ⟨#[]⟩)).setCell ⟨w.heap.size + 1, 2, none⟩ (.int .i64 0)).setCell ⟨w.heap.size + 1, 3, none⟩ (.int .i64 0)).setCell ⟨w.heap.size + 1, 4, none⟩ (.slice none 0 0)) := sv_set5 (Sv.of_below hBv) (by omega) _ _ _ _ _
      exact ⟨_, rfl, ⟨_, rfl, fits_op (by decide), .nil _ _⟩, hS.below (Below.refl _ w) (Nat.le_succ _)⟩
    · obtain ⟨WM, hWM⟩ : ∃ WM, Hid (w5.alloc (.cells #[.int .i64 60] 70) = WM) := ⟨_, hidi rfl⟩
      have hBM : Below w5.heap.size w5 WM := by rw [← hWM.out]; exact below_box _ _
      have hMC : MCell WM w5.heap.size 60 := by rw [← hWM.out]; exact heap_alloc_new w5 _
      have hzM : WM.heap.size = w5.heap.size + 1 := by rw [← hWM.out]; simp
      have hbxM := hidi ((hBM.block _ (by omega)).trans hbx5.out)
      have hreM := hidi (hre5.out.below hBM)
      have k0 := cell_of_row _ w.heap.size 0 _ _ _ hbxM.out
      have k1 := cell_of_row _ w.heap.size 1 _ _ _ hbxM.out
      have k2 := cell_of_row _ w.heap.size 2 _ _ _ hbxM.out
      have k3 := cell_of_row _ w.heap.size 3 _ _ _ hbxM.out
      have k4 := cell_of_row _ w.heap.size 4 _ _ _ hbxM.out
      rw [← hWM.out] at k0 k1 k2 k3 k4
      have hBwM := hBv.trans (hBM.mono hz5)
      have hvM := hv.kept hBwM hP
      have hnB : nodesB f = true := by
        have h := hlb.out
        unfold fvalidB at h
        simp only [Bool.and_eq_true] at h
        exact h.2
      have hEM := hE.below hBwM
      have hform := form_ok 20 (by decide) P w5.heap.size f (.agg #[.int .i64 f.op, .string f.name, .int .i64 f.val, .int .i64 f.bound, .slice o f.args.length c]) false 60 WM hEM hMC (by omega) (fun b hb => ⟨by have := hP b hb; omega, by have := hP b hb; omega⟩) hvM hnB (by decide) 20 rfl
      go_wp2_with fail
      rw [hWM.out]
      refine hform.mono ?_
      intro e w3 hr3
      obtain ⟨hS3, G, o3, c3, bo, rfl, hfG, hAG, hG, hbo⟩ := hr3.one
      obtain ⟨W4, hW4⟩ : ∃ W4, Hid (w3.alloc (.cells #[.int .i64 G.op, .string G.name, .int .i64 G.val, .int .i64 G.bound, .slice o3 G.args.length c3] 24) = W4) := ⟨_, hidi rfl⟩
      have hB4 : Below w3.heap.size w3 W4 := by rw [← hW4.out]; exact below_box _ _
      have hz3 := hS3.size
      have hre4 : Hid (Res5 W4 (w.heap.size + 1)) := by
        obtain ⟨n1, n2, n3, n4, n5, hn⟩ := hreM.out
        exact ⟨n1, n2, n3, n4, n5, (hB4.block _ (by omega)).trans ((hS3.block _ (by omega) (by omega)).trans hn)⟩
      obtain ⟨-, -, -, -, -, -, r0, r1, r2, r3, r4⟩ := hre4.out.cells
      obtain ⟨b1, b2, b3, b4, b5, ⟨s0, s1, s2, s3, s4⟩, -⟩ := hre4.out.cells
      have hrow : W4.heap[w3.heap.size]? = some (.cells #[.int .i64 G.op, .string G.name, .int .i64 G.val, .int .i64 G.bound, .slice o3 G.args.length c3] 24 (0, 0)) := by rw [← hW4.out]; exact heap_alloc_new w3 _
      have g0 := cell_of_row _ w3.heap.size 0 _ _ _ hrow
      have g1 := cell_of_row _ w3.heap.size 1 _ _ _ hrow
      have g2 := cell_of_row _ w3.heap.size 2 _ _ _ hrow
      have g3 := cell_of_row _ w3.heap.size 3 _ _ _ hrow
      have g4 := cell_of_row _ w3.heap.size 4 _ _ _ hrow
      clear hrow
      rw [← hW4.out] at r0 r1 r2 r3 r4 s0 s1 s2 s3 s4 g0 g1 g2 g3 g4
      have hSF : Sv w (w.heap.size + 1) W4 := ⟨hB4.os.trans (hS3.os.trans hBwM.os), hB4.tape.trans (hS3.tape.trans hBwM.tape), hB4.output.trans (hS3.output.trans hBwM.output), by have := hB4.size; omega, fun b hb _ => (hB4.block b (by omega)).trans ((hS3.block b (by omega) (by omega)).trans (hBwM.block b hb))⟩
      have hz4 : W4.heap.size = w3.heap.size + 1 := by rw [← hW4.out]; simp
      have hAG4 := hAG.kept hB4 (fun b hb => by
        rcases hb with hb | ⟨-, hb⟩
        · have := hP b hb; omega
        · exact hb)
      have hfin : Hid (∀ u1 u2 u3 u4 u5, FArgsP (NewP P w (((((W4.setCell ⟨w.heap.size + 1, 0, none⟩ u1).setCell ⟨w.heap.size + 1, 1, none⟩ u2).setCell ⟨w.heap.size + 1, 2, none⟩ u3).setCell ⟨w.heap.size + 1, 3, none⟩ u4).setCell ⟨w.heap.size + 1, 4, none⟩ u5)) (((((W4.setCell ⟨w.heap.size + 1, 0, none⟩ u1).setCell ⟨w.heap.size + 1, 1, none⟩ u2).setCell ⟨w.heap.size + 1, 2, none⟩ u3).setCell ⟨w.heap.size + 1, 3, none⟩ u4).setCell ⟨w.heap.size + 1, 4, none⟩ u5) (.slice o3 G.args.length c3) G.args) := by
        intro u1 u2 u3 u4 u5
        refine (hAG4.same fun b hb => set5_other W4 _ b ?_ _ _ _ _ _).mono fun b hb => ?_
        · rcases hb with hb | ⟨hb, -⟩
          · have := hP b hb; omega
          · omega
        · rcases hb with hb | ⟨hb, hb'⟩
          · exact .inl hb
          · exact .inr ⟨by omega, by rw [set5_size]; omega⟩
      have hNy : Hid (bo = true → kernelF f = (G, 0)) := by
        intro h
        have q := of_decide_eq_true (hbo.out.symm.trans h)
        have hg := hG.out
        rw [if_pos q] at hg
        unfold kernelF
        rw [hlb.out, hyb.out, if_pos ⟨rfl, rfl⟩, if_pos q, hg]
      have hNn : Hid (bo = false → kernelF f = (zeroF, 2)) := by
        intro h
        have q := of_decide_eq_false (hbo.out.symm.trans h)
        unfold kernelF
        rw [hlb.out, hyb.out, if_pos ⟨rfl, rfl⟩, if_neg q]
      cases bo
      · have hN := hidi (hNn.out rfl)
        go_wp2_with fail
        simp only [hW4.out]
        (try simp only [Exit.inBlock, Exit.then])
        refine bodyPost_ret (results_cell_tmp rfl _ _ (w.heap.size + 1) _ _ (0, 0) (.int .i64 2) rfl rfl (hre4.out.set _ _ _ _ _) rfl) rfl ?_
        rw [hN.out]
        have hS : Sv w (w.heap.size + 1) (((((W4.setCell ⟨w.heap.size + 1, 0, none⟩ (.int .i64 0)).setCell ⟨w.heap.size + 1, 1, none⟩ (.string ⟨#[]⟩)).setCell ⟨w.heap.size + 1, 2, none⟩ (.int .i64 0)).setCell ⟨w.heap.size + 1, 3, none⟩ (.int .i64 0)).setCell ⟨w.heap.size + 1, 4, none⟩ (.slice none 0 0)) := sv_set5 hSF (by omega) _ _ _ _ _
        exact ⟨_, rfl, ⟨_, rfl, fits_op (by decide), .nil _ _⟩, hS.below (Below.refl _ w) (Nat.le_succ _)⟩
      · have hN := hidi (hNy.out rfl)
        go_wp2_with fail
        simp only [hW4.out]
        (try simp only [Exit.inBlock, Exit.then])
        refine bodyPost_ret (results_cell_tmp rfl _ _ (w.heap.size + 1) _ _ (0, 0) (.int .i64 0) rfl rfl (hre4.out.set _ _ _ _ _) rfl) rfl ?_
        rw [hN.out]
        have hS := sv_set5 hSF (Nat.le_succ _) (.int .i64 G.op) (.string G.name) (.int .i64 G.val) (.int .i64 G.bound) (.slice o3 G.args.length c3)
        exact ⟨_, rfl, ⟨_, rfl, hfG, hfin.out _ _ _ _ _⟩, hS.below (Below.refl _ w) (Nat.le_succ _)⟩

end Go.Proofs.YtbnnjbfbifihaaaGreatDoor

/-
  The contracts of package formula's constant and negated.
-/
namespace Go.Proofs.YtbnnjbfbifihaaaGreatDoor
open Go.RowKit

def constB (f : Fm) : Bool := f.op == 1 || f.op == 2
/-- negated's result: what OpNot negates -/
def negatedF (f : Fm) : Fm × Bool := if f.op = 4 then (f.args.headD zeroF, true) else (zeroF, false)

set_option maxRecDepth 100000 in
set_option maxHeartbeats 2000000 in
theorem constant_any (P : Nat → Prop) (f : Fm) (v : Value) (w : World) (hv : FAtP P w v f) :
    Calls Tryz.prog 99 #[v] w fun e w' => e = .returned (.bool (constB f)) ∧ Below w.heap.size w w' := by
  obtain ⟨o, c, rfl, hfit, hA⟩ := hv.open
  have hB := below_box w (.cells #[.int .i64 f.op, .string f.name, .int .i64 f.val, .int .i64 f.bound, .slice o f.args.length c] 24)
  have hBB := hidi hB
  clear hB
  cases h1 : (f.op == 1)
  · cases h2 : (f.op == 2)
    · have hc : constB f = false := by unfold constB; rw [h1, h2]; rfl
      rw [hc]
      go_enter Tryz.func99, Tryz.ntmps99
      go_wp2_with fail
      exact bodyPost_ret (by simp [results, go_sem]) rfl ⟨rfl, hBB.out⟩
    · have hc : constB f = true := by unfold constB; rw [h1, h2]; rfl
      rw [hc]
      go_enter Tryz.func99, Tryz.ntmps99
      go_wp2_with fail
      exact bodyPost_ret (by simp [results, go_sem]) rfl ⟨rfl, hBB.out⟩
  · have hc : constB f = true := by unfold constB; rw [h1]; rfl
    rw [hc]
    go_enter Tryz.func99, Tryz.ntmps99
    go_wp2_with fail
    exact bodyPost_ret (by simp [results, go_sem]) rfl ⟨rfl, hBB.out⟩

end Go.Proofs.YtbnnjbfbifihaaaGreatDoor
