/-
  Contracts that the formula laws stand on, part Gc.
-/
import Derived.Test.YtbnnjbfbifihaaaGreatDoorFmN
import Derived.RangeFuncNested
import Derived.RangeFuncBound
import Derived.RangeFuncCalls
import Derived.RangeFuncLeaves
import Derived.Shelf.Abstract
import Derived.OwnWalkIn
import Derived.TacticsInMore
import Derived.LoopNIn
import Derived.LoopIn
import Derived.RangeFuncBox
import Derived.Laws.EntriesVeiled
import Derived.Test.YtbnnjbfbifihaaaGreatDoorGb

/-
  The iterator over the nodes of a formula, as package formula writes it: the contract of its recursive function.
-/
namespace Go.Proofs.YtbnnjbfbifihaaaGreatDoor
open Go.RowKit
attribute [local go_sem] Oper.semAt_some

theorem YieldAt.any {m m' : Nat} {P : Program} {l : Nat} {args : Array Value} {W : World} {R : Ending → World → Prop} (h : YieldAt Fence.wide m P l args W R) : YieldAt Fence.wide m' P l args W R := by
  obtain ⟨fn, tmps, assign, body, hy, hR⟩ := h
  exact ⟨fn, tmps, assign, body, hy, hR.1, fun c cs _ => hR.2 c cs (room_wide _)⟩

/-- what a round keeps: what lies below n₀; and each block of cells from B on -/
structure Kp (n₀ B : Nat) (W W' : World) : Prop where
  low : Below n₀ W W'
  high : ∀ r o, B ≤ r → W.heap[r]? = some o → o.isCells = true → W'.heap[r]? = some o
theorem Kp.refl (n₀ B : Nat) (W : World) : Kp n₀ B W W := ⟨Below.refl _ _, fun _ _ _ h _ => h⟩
theorem Kp.trans {n₀ B : Nat} {X Y Z : World} (h : Kp n₀ B X Y) (k : Kp n₀ B Y Z) : Kp n₀ B X Z := ⟨h.low.trans k.low, fun r o hr ho hc => k.high r o hr (h.high r o hr ho hc) hc⟩
theorem Kp.of_below {n₀ B : Nat} {X Y : World} (h : Below X.heap.size X Y) (hn : n₀ ≤ X.heap.size) : Kp n₀ B X Y :=
  ⟨h.mono hn, fun r _ _ ho _ => (h.block r (Array.getElem?_eq_some_iff.1 ho).1).trans ho⟩

/-- a node that comes: its value's slice of arguments beside it -/
structure NV (n₀ : Nat) (w : World) where
  sl : Value
  f : Fm
  d : Nat
  p : Bool
  ok : FAt n₀ w (fval f sl) f
  hd : d + f.depth ≤ 1000000
def NV.plain {n₀ : Nat} {w : World} (x : NV n₀ w) : PN := (x.f, x.d, x.p)
def nval (f : Fm) (sl : Value) (d : Nat) (p : Bool) : Value := .agg #[.int .i64 f.op, .string f.name, .int .i64 f.val, .int .i64 f.bound, sl, .int .i64 d, .bool p]
def NV.encs {n₀ : Nat} {w : World} (x : NV n₀ w) : Array Value := #[nval x.f x.sl x.d x.p]

/-- the seven cells of a node in a block -/
def Cells7 (w : World) (b : Nat) (f : Fm) (sl : Value) (d : Nat) (p : Bool) : Prop :=
  w.heap[b]? = some (.cells #[.int .i64 f.op, .string f.name, .int .i64 f.val, .int .i64 f.bound, sl, .int .i64 d, .bool p] 61 (0, 0))
theorem Cells7.cells {w : World} {b : Nat} {f : Fm} {sl : Value} {d : Nat} {p : Bool} (h : Cells7 w b f sl d p) :
    w.cell? ⟨b, 0, none⟩ = some (.int .i64 f.op) ∧ w.cell? ⟨b, 1, none⟩ = some (.string f.name) ∧ w.cell? ⟨b, 2, none⟩ = some (.int .i64 f.val) ∧ w.cell? ⟨b, 3, none⟩ = some (.int .i64 f.bound) ∧ w.cell? ⟨b, 4, none⟩ = some sl ∧ w.cell? ⟨b, 5, none⟩ = some (.int .i64 d) ∧ w.cell? ⟨b, 6, none⟩ = some (.bool p) :=
  ⟨cell_of_row w b 0 _ _ _ h, cell_of_row w b 1 _ _ _ h, cell_of_row w b 2 _ _ _ h, cell_of_row w b 3 _ _ _ h, cell_of_row w b 4 _ _ _ h, cell_of_row w b 5 _ _ _ h, cell_of_row w b 6 _ _ _ h⟩

/-- the boxes that hold yield and the recursive function -/
def WBox (w : World) (l Yb Wb : Nat) : Prop :=
  w.heap[Yb]? = some (.cells #[.func (.yield l) #[] #[]] 86 (0, 0)) ∧
  w.heap[Wb]? = some (.cells #[.func (.func 83) #[] #[.pointer (some ⟨Yb, 0, none⟩), .pointer (some ⟨Wb, 0, none⟩)]] 86 (0, 0))
theorem WBox.kp {X Y : World} {n₀ B l Yb Wb : Nat} (h : WBox X l Yb Wb) (k : Kp n₀ B X Y) (hY : B ≤ Yb) (hW : B ≤ Wb) : WBox Y l Yb Wb := ⟨k.high _ _ hY h.1 rfl, k.high _ _ hW h.2 rfl⟩
theorem WBox.cells {w : World} {l Yb Wb : Nat} (h : WBox w l Yb Wb) : w.cell? ⟨Yb, 0, none⟩ = some (.func (.yield l) #[] #[]) ∧
    w.cell? ⟨Wb, 0, none⟩ = some (.func (.func 83) #[] #[.pointer (some ⟨Yb, 0, none⟩), .pointer (some ⟨Wb, 0, none⟩)]) := ⟨cell_of_row w Yb 0 _ _ _ h.1, cell_of_row w Wb 0 _ _ _ h.2⟩

theorem tense_late (o : Int) : (tenseI o == 1) = lateB o := by
  unfold tenseI
  cases hk : knownB o
  · have : ¬ (1 ≤ o ∧ o ≤ 19) := fun h => by rw [(knownB_iff o).2 h] at hk; cases hk
    unfold lateB
    simp
    omega
  · rcases op_cases ((knownB_iff o).1 hk) with rfl | rfl | rfl | rfl | rfl | rfl | rfl | rfl | rfl | rfl | rfl | rfl | rfl | rfl | rfl | rfl | rfl | rfl | rfl <;> rfl
theorem tense_fut (o : Int) : (tenseI o == 2) = futB o := by
  unfold tenseI
  cases hk : knownB o
  · have : ¬ (1 ≤ o ∧ o ≤ 19) := fun h => by rw [(knownB_iff o).2 h] at hk; cases hk
    unfold futB
    simp
    omega
  · rcases op_cases ((knownB_iff o).1 hk) with rfl | rfl | rfl | rfl | rfl | rfl | rfl | rfl | rfl | rfl | rfl | rfl | rfl | rfl | rfl | rfl | rfl | rfl | rfl <;> rfl

end Go.Proofs.YtbnnjbfbifihaaaGreatDoor

/-
  The contract of the recursive function that hands the nodes of a formula to yield.
-/
namespace Go.Proofs.YtbnnjbfbifihaaaGreatDoor
open Go.RowKit
attribute [local go_sem] Oper.semAt_some

theorem grownBy_of_below' {w w' : World} (h : Below w.heap.size w w') : w.grownBy w' none := ⟨h.os, h.tape, h.output, h.size, fun k hk _ => h.block k hk⟩
theorem Env.low {w w' : World} {n₀ : Nat} (h : Env w) (hn : 0 < n₀) (hB : Below n₀ w w') : Env w' := by
  refine ⟨Nat.lt_of_lt_of_le h.pos hB.size, fun k hk => ?_⟩
  obtain ⟨h1, h2, h3, h4, h5, h6, h7⟩ := h.row k hk
  exact ⟨(hB.cell (p := ⟨0, _, none⟩) hn).trans h1, (hB.cell (p := ⟨0, _, none⟩) hn).trans h2, (hB.cell (p := ⟨0, _, none⟩) hn).trans h3, (hB.cell (p := ⟨0, _, none⟩) hn).trans h4, (hB.cell (p := ⟨0, _, none⟩) hn).trans h5, (hB.cell (p := ⟨0, _, none⟩) hn).trans h6, (hB.cell (p := ⟨0, _, none⟩) hn).trans h7⟩

set_option maxRecDepth 100000 in
set_option maxHeartbeats 8000000 in
theorem walk_in (l n₀ B Yb Wb N : Nat) (w : World) (hE : Env w) (hn0 : n₀ ≤ w.heap.size) (hnp : 0 < n₀) (hwB : w.heap.size ≤ B) (hY' : B ≤ Yb) (hW' : B ≤ Wb) (J Jx : List (NV n₀ w) → World → Prop)
    (hJ : ∀ s X Y, J s X → X.grownBy Y none → J s Y)
    (hY : ∀ m pre (x : NV n₀ w) X, J pre X → pre.length < N → YieldAt Fence.wide m Tryz.prog l x.encs X fun e Y => (e = .returned (.bool true) ∧ J (pre ++ [x]) Y ∧ Kp n₀ B X Y) ∨ (e = .returned (.bool false) ∧ Jx (pre ++ [x]) Y))
    (f : Fm) : ∀ (m : Nat) (sl : Value) (d : Nat) (p : Bool) (pre : List (NV n₀ w)) (W : World), FAt n₀ w (fval f sl) f → d + f.depth ≤ 1000000 → Below n₀ w W → B ≤ W.heap.size → WBox W l Yb Wb → J pre W → pre.length + f.nodes ≤ N →
      CallsIn Fence.wide m Tryz.prog 83 #[nval f sl d p, .pointer (some ⟨Yb, 0, none⟩), .pointer (some ⟨Wb, 0, none⟩)] W fun e W' => (e = .returned (.bool true) ∧ ∃ xs, xs.map NV.plain = nodesP f d p ∧ J (pre ++ xs) W' ∧ Kp n₀ B W W') ∨ (e = .returned (.bool false) ∧ ∃ xs, xs.map NV.plain <+: nodesP f d p ∧ Jx (pre ++ xs) W') := by
  induction f using Fm.ind with
  | h f ih =>
    intro m sl d p pre W hv hd hB0 hBW hwb0 hj0 hN
    obtain ⟨o, c, rfl⟩ := hv.slot
    have hA : FArgs n₀ w (.slice o f.args.length c) f.args := by
      obtain ⟨o', c', e, -, h⟩ := hv.open
      have : Value.slice o f.args.length c = .slice o' f.args.length c' := by simpa [fval] using e
      rw [this]; exact h
    have hlen := hA.len
    have hNn := f.nodes_eq
    have hDn := f.depth_eq
    obtain ⟨W1, hW1⟩ : ∃ W1, Hid (W.alloc (.cells #[.int .i64 f.op, .string f.name, .int .i64 f.val, .int .i64 f.bound, .slice o f.args.length c, .int .i64 d, .bool p] 61) = W1) := ⟨_, rfl⟩
    have hb1 : Below W.heap.size W W1 := by rw [← hW1.out]; exact below_box _ _
    have hn1 : Hid (Cells7 W1 W.heap.size f (.slice o f.args.length c) d p) := by unfold Hid; rw [← hW1.out]; exact heap_alloc_new W _
    have hz1 := hb1.size
    have hB1 : Below n₀ w W1 := hB0.trans (hb1.mono (by omega))
    have hw1 : WBox W1 l Yb Wb := hwb0.kp (Kp.of_below hb1 (by omega)) hY' hW'
    have hj1 : J pre W1 := hJ _ _ _ hj0 (grownBy_of_below' hb1)
    obtain ⟨y0, -⟩ := hw1.cells
    obtain ⟨fn, tmps, assign, body, hy, hR⟩ := hY (m - 1) pre ⟨.slice o f.args.length c, f, d, p, hv, hd⟩ W1 hj1 (by omega)
    simp only [NV.encs, nval] at hy
    rw [← hW1.out] at y0 hy hR
    refine callsIn_of_wp Tryz.func83 rfl trivial ?_ rfl
    unfold nval
    simp only [Tryz.ntmps83, List.size_toArray, List.length_cons, List.length_nil, Nat.reduceAdd, Nat.reduceSub, Array.replicate_succ, Array.replicate_zero, List.push_toArray, List.append_toArray, List.nil_append, List.cons_append]
    gi_wp2_with fail
    refine ⟨(fun h => by cases h), hR.mono ?_⟩
    clear hy hR y0
    rintro e W2 (⟨rfl, hj2, hk2⟩ | ⟨rfl, hjx⟩)
    · rw [hW1.out] at hk2
      have hb7 : Cells7 W2 W.heap.size f (.slice o f.args.length c) d p := hk2.high _ _ hBW hn1.out rfl
      have hw2 := hw1.kp hk2 hY' hW'
      obtain ⟨q0, q1, q2, q3, q4, q5, q6⟩ := hb7.cells
      obtain ⟨y0, y1⟩ := hw2.cells
      clear hb7 hw2
      cases p
      · cases hl : lateB f.op
        · have hq : Hid ((false || lateB f.op) = false) := hl
          have ht : Hid ((tenseI f.op == 1) = false) := (tense_late f.op).trans hl
          obtain ⟨x, hx⟩ : ∃ x, Hid (tenseI f.op = x) := ⟨_, rfl⟩
          have ht2 : (x == 1) = false := by rw [← hx.out]; exact ht.out
          gi_wp2_with fail
          refine ⟨trivial, (fun h => by cases h), ?_⟩
          refine (callsIn_wide.2 (tense_any f.op W2 (hE.low hnp (hB1.trans hk2.low)))).mono ?_
          rintro e W2' ⟨rfl, rfl⟩
          rw [hx.out]
          gi_wp2_with fail
          gi_loopw [25] (fun ii wr => ∃ (k : Nat) (xs : List (NV n₀ w)), k ≤ f.args.length ∧ ii = .int .i64 k ∧ Hid (xs.map NV.plain = (f, d, false) :: nodesPL (f.args.take k) (d + 1) false) ∧ J (pre ++ xs) wr ∧ Kp n₀ B W1 wr) (fun ii _ => f.args.length - (intOf ii).toNat)
          case atStart => exact ⟨0, [⟨_, f, d, false, hv, hd⟩], Nat.zero_le _, rfl, by unfold Hid; rw [List.take_zero, nodesPL_nil]; rfl, hj2, hk2⟩
          case round =>
            obtain ⟨k, xs, hk, rfl, hX, hj, hkp⟩ := hrel
            clear q0 q1 q2 q3 q4 q5 q6 y0 y1
            have hW3 := hB1.trans hkp.low
            have hsz : W1.heap.size ≤ wr.heap.size := hkp.low.size
            have hb7 : Cells7 wr W.heap.size f (.slice o f.args.length c) d false := hkp.high _ _ hBW hn1.out rfl
            have hwb := hw1.kp hkp hY' hW'
            obtain ⟨q0, q1, q2, q3, q4, q5, q6⟩ := hb7.cells
            obtain ⟨y0, y1⟩ := hwb.cells
            have hlenx : xs.length = 1 + Fm.nodesL (f.args.take k) := by have := congrArg List.length hX.out; rw [List.length_map, List.length_cons, nodesPL_length] at this; omega
            by_cases hlt : k < f.args.length
            · obtain ⟨b, off, rfl, hb, hat⟩ := hA.at (by omega)
              obtain ⟨sl, hc5, hF⟩ := hat k hlt
              obtain ⟨o1, c1, rfl⟩ := hF.slot
              obtain ⟨e0, e1, e2, e3, e4⟩ := hc5.below hW3 hb
              have hS := hidi (nodesPL_take hlt (d + 1) false)
              have hN1 := Fm.nodesL_take hlt
              have hN2 := Fm.nodesL_take_le f.args (k + 1)
              have hN3 := Fm.depth_get hlt
              have hmem := List.getElem_mem hlt
              have hsp := hidi (nodesPL_split f.args (k + 1) (d + 1) false)
              generalize f.args[k] = g at *
              have hP1 : (pre ++ xs).length + g.nodes ≤ N := by rw [List.length_append]; omega
              have hP2 : d + 1 + g.depth ≤ 1000000 := by omega
              have hdb : (d : Int) ≤ 1000000 := by omega
              clear hlenx hN1 hN2 hN3
              obtain ⟨W3, hW3e⟩ : ∃ W3, Hid (wr.alloc (.cells #[.int .i64 g.op, .string g.name, .int .i64 g.val, .int .i64 g.bound, .slice o1 g.args.length c1] 24) = W3) := ⟨_, rfl⟩
              have hb3 : Below wr.heap.size wr W3 := by rw [← hW3e.out]; exact below_box _ _
              have hk3 : Kp n₀ B wr W3 := Kp.of_below hb3 (by omega)
              have hj3 := hJ _ _ _ hj (grownBy_of_below' hb3)
              have hw3 := hwb.kp hk3 hY' hW'
              have hz3 := hb3.size
              obtain ⟨z0, z1⟩ := hw3.cells
              have hb8 : Cells7 W3 W.heap.size f (.slice (some ⟨b, off, none⟩) f.args.length c) d false := hk3.high _ _ hBW hb7 rfl
              obtain ⟨r0, r1, r2, r3, r4, r5, r6⟩ := hb8.cells
              rw [← hW3e.out] at z0 z1 r5
              have hcast : ((d : Int) + 1) = ((d + 1 : Nat) : Int) := by omega
              have hcst := hidi hcast
              clear hcast
              gi_wp2_with fail
              refine ⟨trivial, (fun h => by cases h), ?_⟩
              rw [hW3e.out, hcst.out]
              refine (ih g hmem (m - 1) (.slice o1 g.args.length c1) (d + 1) false (pre ++ xs) W3 hF hP2 (hW3.trans hk3.low) (by omega) hw3 hj3 hP1).mono ?_
              clear z0 z1 r5 q0 q1 q2 q3 q4 q5 q6 y0 y1 r0 r1 r2 r3 r4 r6 e0 e1 e2 e3 e4
              rintro e W4 (⟨rfl, ys, hys, hj4, hk4⟩ | ⟨rfl, ys, hys, hjx⟩)
              · have hys := hidi hys
                rename_i hys0
                clear hys0
                gi_wp2
                go_roundw
                case rel => exact ⟨k + 1, xs ++ ys, by omega, by go_num, by unfold Hid; rw [List.map_append, hX.out, hys.out, hS.out]; rfl, by rw [← List.append_assoc]; exact hj4, hkp.trans (hk3.trans hk4)⟩
                case measure => simp [intOf]; omega
              · gi_wp2
                go_ret
                refine .inr ⟨rfl, xs ++ ys, ?_, by rw [← List.append_assoc]; exact hjx⟩
                obtain ⟨t, ht⟩ := hys
                refine ⟨t ++ nodesPL (f.args.drop (k + 1)) (d + 1) false, ?_⟩
                rw [List.map_append, hX.out, nodesP_eq, hq.out, ← hsp.out, hS.out, ← ht]
                simp only [List.cons_append, List.append_assoc]
            · have hT : Hid (xs.map NV.plain = nodesP f d false) := by unfold Hid; rw [hX.out, List.take_of_length_le (by omega), nodesP_eq, hq.out]
              gi_wp2
              go_ret
              exact .inl ⟨rfl, xs, hT.out, hj, (Kp.of_below hb1 (by omega)).trans hkp⟩
        · have hq : Hid ((false || lateB f.op) = true) := hl
          have ht : Hid ((tenseI f.op == 1) = true) := (tense_late f.op).trans hl
          obtain ⟨x, hx⟩ : ∃ x, Hid (tenseI f.op = x) := ⟨_, rfl⟩
          have ht2 : (x == 1) = true := by rw [← hx.out]; exact ht.out
          gi_wp2_with fail
          refine ⟨trivial, (fun h => by cases h), ?_⟩
          refine (callsIn_wide.2 (tense_any f.op W2 (hE.low hnp (hB1.trans hk2.low)))).mono ?_
          rintro e W2' ⟨rfl, rfl⟩
          rw [hx.out]
          gi_wp2_with fail
          gi_loopw [25] (fun ii wr => ∃ (k : Nat) (xs : List (NV n₀ w)), k ≤ f.args.length ∧ ii = .int .i64 k ∧ Hid (xs.map NV.plain = (f, d, false) :: nodesPL (f.args.take k) (d + 1) true) ∧ J (pre ++ xs) wr ∧ Kp n₀ B W1 wr) (fun ii _ => f.args.length - (intOf ii).toNat)
          case atStart => exact ⟨0, [⟨_, f, d, false, hv, hd⟩], Nat.zero_le _, rfl, by unfold Hid; rw [List.take_zero, nodesPL_nil]; rfl, hj2, hk2⟩
          case round =>
            obtain ⟨k, xs, hk, rfl, hX, hj, hkp⟩ := hrel
            clear q0 q1 q2 q3 q4 q5 q6 y0 y1
            have hW3 := hB1.trans hkp.low
            have hsz : W1.heap.size ≤ wr.heap.size := hkp.low.size
            have hb7 : Cells7 wr W.heap.size f (.slice o f.args.length c) d false := hkp.high _ _ hBW hn1.out rfl
            have hwb := hw1.kp hkp hY' hW'
            obtain ⟨q0, q1, q2, q3, q4, q5, q6⟩ := hb7.cells
            obtain ⟨y0, y1⟩ := hwb.cells
            have hlenx : xs.length = 1 + Fm.nodesL (f.args.take k) := by have := congrArg List.length hX.out; rw [List.length_map, List.length_cons, nodesPL_length] at this; omega
            by_cases hlt : k < f.args.length
            · obtain ⟨b, off, rfl, hb, hat⟩ := hA.at (by omega)
              obtain ⟨sl, hc5, hF⟩ := hat k hlt
              obtain ⟨o1, c1, rfl⟩ := hF.slot
              obtain ⟨e0, e1, e2, e3, e4⟩ := hc5.below hW3 hb
              have hS := hidi (nodesPL_take hlt (d + 1) true)
              have hN1 := Fm.nodesL_take hlt
              have hN2 := Fm.nodesL_take_le f.args (k + 1)
              have hN3 := Fm.depth_get hlt
              have hmem := List.getElem_mem hlt
              have hsp := hidi (nodesPL_split f.args (k + 1) (d + 1) true)
              generalize f.args[k] = g at *
              have hP1 : (pre ++ xs).length + g.nodes ≤ N := by rw [List.length_append]; omega
              have hP2 : d + 1 + g.depth ≤ 1000000 := by omega
              have hdb : (d : Int) ≤ 1000000 := by omega
              clear hlenx hN1 hN2 hN3
              obtain ⟨W3, hW3e⟩ : ∃ W3, Hid (wr.alloc (.cells #[.int .i64 g.op, .string g.name, .int .i64 g.val, .int .i64 g.bound, .slice o1 g.args.length c1] 24) = W3) := ⟨_, rfl⟩
              have hb3 : Below wr.heap.size wr W3 := by rw [← hW3e.out]; exact below_box _ _
              have hk3 : Kp n₀ B wr W3 := Kp.of_below hb3 (by omega)
              have hj3 := hJ _ _ _ hj (grownBy_of_below' hb3)
              have hw3 := hwb.kp hk3 hY' hW'
              have hz3 := hb3.size
              obtain ⟨z0, z1⟩ := hw3.cells
              have hb8 : Cells7 W3 W.heap.size f (.slice (some ⟨b, off, none⟩) f.args.length c) d false := hk3.high _ _ hBW hb7 rfl
              obtain ⟨r0, r1, r2, r3, r4, r5, r6⟩ := hb8.cells
              rw [← hW3e.out] at z0 z1 r5
              have hcast : ((d : Int) + 1) = ((d + 1 : Nat) : Int) := by omega
              have hcst := hidi hcast
              clear hcast
              gi_wp2_with fail
              refine ⟨trivial, (fun h => by cases h), ?_⟩
              rw [hW3e.out, hcst.out]
              refine (ih g hmem (m - 1) (.slice o1 g.args.length c1) (d + 1) true (pre ++ xs) W3 hF hP2 (hW3.trans hk3.low) (by omega) hw3 hj3 hP1).mono ?_
              clear z0 z1 r5 q0 q1 q2 q3 q4 q5 q6 y0 y1 r0 r1 r2 r3 r4 r6 e0 e1 e2 e3 e4
              rintro e W4 (⟨rfl, ys, hys, hj4, hk4⟩ | ⟨rfl, ys, hys, hjx⟩)
              · have hys := hidi hys
                rename_i hys0
                clear hys0
                gi_wp2
                go_roundw
                case rel => exact ⟨k + 1, xs ++ ys, by omega, by go_num, by unfold Hid; rw [List.map_append, hX.out, hys.out, hS.out]; rfl, by rw [← List.append_assoc]; exact hj4, hkp.trans (hk3.trans hk4)⟩
                case measure => simp [intOf]; omega
              · gi_wp2
                go_ret
                refine .inr ⟨rfl, xs ++ ys, ?_, by rw [← List.append_assoc]; exact hjx⟩
                obtain ⟨t, ht⟩ := hys
                refine ⟨t ++ nodesPL (f.args.drop (k + 1)) (d + 1) true, ?_⟩
                rw [List.map_append, hX.out, nodesP_eq, hq.out, ← hsp.out, hS.out, ← ht]
                simp only [List.cons_append, List.append_assoc]
            · have hT : Hid (xs.map NV.plain = nodesP f d false) := by unfold Hid; rw [hX.out, List.take_of_length_le (by omega), nodesP_eq, hq.out]
              gi_wp2
              go_ret
              exact .inl ⟨rfl, xs, hT.out, hj, (Kp.of_below hb1 (by omega)).trans hkp⟩
      · have hq : Hid ((true || lateB f.op) = true) := rfl
        gi_wp2_with fail
        refine ⟨trivial, ?_⟩
        gi_wp2_with fail
        gi_loopw [25] (fun ii wr => ∃ (k : Nat) (xs : List (NV n₀ w)), k ≤ f.args.length ∧ ii = .int .i64 k ∧ Hid (xs.map NV.plain = (f, d, true) :: nodesPL (f.args.take k) (d + 1) true) ∧ J (pre ++ xs) wr ∧ Kp n₀ B W1 wr) (fun ii _ => f.args.length - (intOf ii).toNat)
        case atStart => exact ⟨0, [⟨_, f, d, true, hv, hd⟩], Nat.zero_le _, rfl, by unfold Hid; rw [List.take_zero, nodesPL_nil]; rfl, hj2, hk2⟩
        case round =>
          obtain ⟨k, xs, hk, rfl, hX, hj, hkp⟩ := hrel
          clear q0 q1 q2 q3 q4 q5 q6 y0 y1
          have hW3 := hB1.trans hkp.low
          have hsz : W1.heap.size ≤ wr.heap.size := hkp.low.size
          have hb7 : Cells7 wr W.heap.size f (.slice o f.args.length c) d true := hkp.high _ _ hBW hn1.out rfl
          have hwb := hw1.kp hkp hY' hW'
          obtain ⟨q0, q1, q2, q3, q4, q5, q6⟩ := hb7.cells
          obtain ⟨y0, y1⟩ := hwb.cells
          have hlenx : xs.length = 1 + Fm.nodesL (f.args.take k) := by have := congrArg List.length hX.out; rw [List.length_map, List.length_cons, nodesPL_length] at this; omega
          by_cases hlt : k < f.args.length
          · obtain ⟨b, off, rfl, hb, hat⟩ := hA.at (by omega)
            obtain ⟨sl, hc5, hF⟩ := hat k hlt
            obtain ⟨o1, c1, rfl⟩ := hF.slot
            obtain ⟨e0, e1, e2, e3, e4⟩ := hc5.below hW3 hb
            have hS := hidi (nodesPL_take hlt (d + 1) true)
            have hN1 := Fm.nodesL_take hlt
            have hN2 := Fm.nodesL_take_le f.args (k + 1)
            have hN3 := Fm.depth_get hlt
            have hmem := List.getElem_mem hlt
            have hsp := hidi (nodesPL_split f.args (k + 1) (d + 1) true)
            generalize f.args[k] = g at *
            have hP1 : (pre ++ xs).length + g.nodes ≤ N := by rw [List.length_append]; omega
            have hP2 : d + 1 + g.depth ≤ 1000000 := by omega
            have hdb : (d : Int) ≤ 1000000 := by omega
            clear hlenx hN1 hN2 hN3
            obtain ⟨W3, hW3e⟩ : ∃ W3, Hid (wr.alloc (.cells #[.int .i64 g.op, .string g.name, .int .i64 g.val, .int .i64 g.bound, .slice o1 g.args.length c1] 24) = W3) := ⟨_, rfl⟩
            have hb3 : Below wr.heap.size wr W3 := by rw [← hW3e.out]; exact below_box _ _
            have hk3 : Kp n₀ B wr W3 := Kp.of_below hb3 (by omega)
            have hj3 := hJ _ _ _ hj (grownBy_of_below' hb3)
            have hw3 := hwb.kp hk3 hY' hW'
            have hz3 := hb3.size
            obtain ⟨z0, z1⟩ := hw3.cells
            have hb8 : Cells7 W3 W.heap.size f (.slice (some ⟨b, off, none⟩) f.args.length c) d true := hk3.high _ _ hBW hb7 rfl
            obtain ⟨r0, r1, r2, r3, r4, r5, r6⟩ := hb8.cells
            rw [← hW3e.out] at z0 z1 r5
            have hcast : ((d : Int) + 1) = ((d + 1 : Nat) : Int) := by omega
            have hcst := hidi hcast
            clear hcast
            gi_wp2_with fail
            refine ⟨trivial, (fun h => by cases h), ?_⟩
            rw [hW3e.out, hcst.out]
            refine (ih g hmem (m - 1) (.slice o1 g.args.length c1) (d + 1) true (pre ++ xs) W3 hF hP2 (hW3.trans hk3.low) (by omega) hw3 hj3 hP1).mono ?_
            clear z0 z1 r5 q0 q1 q2 q3 q4 q5 q6 y0 y1 r0 r1 r2 r3 r4 r6 e0 e1 e2 e3 e4
            rintro e W4 (⟨rfl, ys, hys, hj4, hk4⟩ | ⟨rfl, ys, hys, hjx⟩)
            · have hys := hidi hys
              rename_i hys0
              clear hys0
              gi_wp2
              go_roundw
              case rel => exact ⟨k + 1, xs ++ ys, by omega, by go_num, by unfold Hid; rw [List.map_append, hX.out, hys.out, hS.out]; rfl, by rw [← List.append_assoc]; exact hj4, hkp.trans (hk3.trans hk4)⟩
              case measure => simp [intOf]; omega
            · gi_wp2
              go_ret
              refine .inr ⟨rfl, xs ++ ys, ?_, by rw [← List.append_assoc]; exact hjx⟩
              obtain ⟨t, ht⟩ := hys
              refine ⟨t ++ nodesPL (f.args.drop (k + 1)) (d + 1) true, ?_⟩
              rw [List.map_append, hX.out, nodesP_eq, hq.out, ← hsp.out, hS.out, ← ht]
              simp only [List.cons_append, List.append_assoc]
          · have hT : Hid (xs.map NV.plain = nodesP f d true) := by unfold Hid; rw [hX.out, List.take_of_length_le (by omega), nodesP_eq, hq.out]
            gi_wp2
            go_ret
            exact .inl ⟨rfl, xs, hT.out, hj, (Kp.of_below hb1 (by omega)).trans hkp⟩
    · gi_wp2
      go_ret
      exact .inr ⟨rfl, [_], ⟨nodesPL f.args (d + 1) (p || lateB f.op), by rw [nodesP_eq]; rfl⟩, hjx⟩

end Go.Proofs.YtbnnjbfbifihaaaGreatDoor

/-
  The contract of the iterator over the nodes of a formula.
-/
namespace Go.Proofs.YtbnnjbfbifihaaaGreatDoor
open Go.RowKit Go.Shelf
attribute [local go_sem] Oper.semAt_some

set_option maxRecDepth 100000 in
set_option maxHeartbeats 2000000 in
theorem nodes_stops (m n₀ B Rb : Nat) (w w0 : World) (hE : Env w) (hn0 : n₀ ≤ w.heap.size) (hnp : 0 < n₀) (hwB : w.heap.size ≤ B) (hB : B ≤ w0.heap.size) (hww : Below n₀ w w0) (f : Fm) (o : Option Addr) (c : Nat)
    (hv : FAt n₀ w (fval f (.slice o f.args.length c)) f) (hd : 1 + f.depth ≤ 1000000) (hR : w0.heap[Rb]? = some (.cells #[.int .i64 f.op, .string f.name, .int .i64 f.val, .int .i64 f.bound, .slice o f.args.length c] 24 (0, 0))) :
    SeqStopsK Fence.wide m Tryz.prog 82 #[.pointer (some ⟨Rb, 0, none⟩)] NV.encs (Kp n₀ B) (fun xs : List (NV n₀ w) => xs.map NV.plain = nodesP f 1 false) (fun pre => pre.map NV.plain <+: nodesP f 1 false) f.nodes w0 := by
  intro l J Jx W hW hJ hJx hY h0
  have hRl : Rb < w0.heap.size := (Array.getElem?_eq_some_iff.1 hR).1
  have hR1 : W.heap[Rb]? = some (.cells #[.int .i64 f.op, .string f.name, .int .i64 f.val, .int .i64 f.bound, .slice o f.args.length c] 24 (0, 0)) := (hW.block Rb hRl).trans hR
  have hsz := hW.size
  obtain ⟨W2, hW2⟩ : ∃ W2, Hid ((W.alloc (.cells #[.func (.yield l) #[] #[]] 86)).alloc (.cells #[.func (.func 83) #[] #[.pointer (some ⟨W.heap.size, 0, none⟩), .pointer (some ⟨W.heap.size + 1, 0, none⟩)]] 86) = W2) := ⟨_, rfl⟩
  have b1 := below_box W (.cells #[.func (.yield l) #[] #[]] 86)
  have q1 : (W.alloc (.cells #[.func (.yield l) #[] #[]] 86)).heap.size = W.heap.size + 1 := by simp
  have b2 := below_box (W.alloc (.cells #[.func (.yield l) #[] #[]] 86)) (.cells #[.func (.func 83) #[] #[.pointer (some ⟨W.heap.size, 0, none⟩), .pointer (some ⟨W.heap.size + 1, 0, none⟩)]] 86)
  have hb : Below W.heap.size W W2 := by rw [← hW2.out]; exact b1.trans (b2.mono (by omega))
  have hs2 : W2.heap.size = W.heap.size + 2 := by rw [← hW2.out]; simp
  have hw2 : WBox W2 l W.heap.size (W.heap.size + 1) := by
    rw [← hW2.out]
    refine ⟨(b2.block W.heap.size (by omega)).trans (heap_alloc_new W _), ?_⟩
    have := heap_alloc_new (W.alloc (.cells #[.func (.yield l) #[] #[]] 86)) (.cells #[.func (.func 83) #[] #[.pointer (some ⟨W.heap.size, 0, none⟩), .pointer (some ⟨W.heap.size + 1, 0, none⟩)]] 86)
    rw [q1] at this
    exact this
  have hR2 : W2.heap[Rb]? = some (.cells #[.int .i64 f.op, .string f.name, .int .i64 f.val, .int .i64 f.bound, .slice o f.args.length c] 24 (0, 0)) := (hb.block Rb (by omega)).trans hR1
  have h2 : J [] W2 := hJ [] W W2 none h0 (grownBy_of_below' hb) (fun r e => by cases e)
  obtain ⟨c0, c1, c2, c3, c4⟩ : Cells5 W2 Rb 0 (.int .i64 f.op) (.string f.name) (.int .i64 f.val) (.int .i64 f.bound) (.slice o f.args.length c) := ⟨cell_of_row _ _ 0 _ _ _ hR2, cell_of_row _ _ 1 _ _ _ hR2, cell_of_row _ _ 2 _ _ _ hR2, cell_of_row _ _ 3 _ _ _ hR2, cell_of_row _ _ 4 _ _ _ hR2⟩
  rw [Nat.zero_add] at c1 c2 c3 c4
  rw [← hW2.out] at c0 c1 c2 c3 c4
  clear b1 b2 q1 hR hR1 hR2
  refine callsIn_of_wp Tryz.func82 rfl trivial ?_ rfl
  simp only [Tryz.ntmps82, List.size_toArray, List.length_cons, List.length_nil, Nat.reduceAdd, Nat.reduceSub, Array.replicate_succ, Array.replicate_zero, List.push_toArray, List.append_toArray, List.nil_append, List.cons_append]
  gi_wp2_with fail
  refine ⟨trivial, (fun h => by cases h), ?_⟩
  rw [hW2.out]
  clear c0 c1 c2 c3 c4
  refine (walk_in l n₀ B W.heap.size (W.heap.size + 1) f.nodes w hE hn0 hnp hwB (by omega) (by omega) J Jx (fun s X Y h g => hJ s X Y none h g (fun r e => by cases e)) (fun m' pre x X hj hl => YieldAt.any (hY pre x X hj hl)) f (m - 1) (.slice o f.args.length c) 1 false [] W2 hv hd (hww.trans ((hW.mono (by omega)).trans (hb.mono (by omega)))) (by omega) hw2 h2 (by simp)).mono ?_
  rintro e W3 (⟨rfl, xs, hxs, hj, -⟩ | ⟨rfl, xs, hxs, hjx⟩)
  · gi_wp2
    go_end0
    exact ⟨⟨_, rfl⟩, .inl ⟨xs, hxs, by simpa using hj⟩⟩
  · gi_wp2
    go_end0
    exact ⟨⟨_, rfl⟩, .inr ⟨xs, hxs, by simpa using hjx⟩⟩

set_option maxHeartbeats 1000000 in
theorem nodes_any (f : Fm) (o : Option Addr) (c : Nat) (w : World) :
    Calls Tryz.prog 57 #[.agg #[.int .i64 f.op, .string f.name, .int .i64 f.val, .int .i64 f.bound, .slice o f.args.length c]] w fun e w' => e = .returned (.func (.func 82) #[] #[.pointer (some ⟨w.heap.size, 0, none⟩)]) ∧ w' = w.alloc (.cells #[.int .i64 f.op, .string f.name, .int .i64 f.val, .int .i64 f.bound, .slice o f.args.length c] 24) := by
  go_enter Tryz.func57, Tryz.ntmps57
  go_wp2
  go_ret
  exact ⟨rfl, rfl⟩

theorem kp_t {n₀ B : Nat} {X Y Z : World} (h : Kp n₀ B X Y) (k : Kp n₀ B Y Z) : Kp n₀ B X Z := h.trans k
theorem kp_b {n₀ B : Nat} (hn : n₀ ≤ B) (W : World) (l : Nat) (o o' : Obj) (hl : B ≤ l) (ho : W.heap[l]? = some o) (hc : o.isCells = false) (_ : o.isWalk = false) : Kp n₀ B W (W.putObj l o') :=
  ⟨(Below.refl n₀ W).grown (grownBy_putObj' W l o') (by have := (Array.getElem?_eq_some_iff.1 ho).1; omega) (fun r e => by cases e; omega), fun r x _ hx hcx => (World.putObj_heap_other (by rintro rfl; rw [ho] at hx; cases hx; rw [hc] at hcx; cases hcx)).trans hx⟩
theorem kp_set {n₀ B b k : Nat} (W : World) (v : Value) (h1 : n₀ ≤ b) (h2 : b < B) : Kp n₀ B W (W.setCell ⟨b, k, none⟩ v) :=
  ⟨(Below.refl n₀ W).setCell (p := ⟨b, k, none⟩) h1 _, fun r x hr hx _ => (Below.heap_setCell _ _ _ _ (by show r ≠ b; omega)).trans hx⟩

end Go.Proofs.YtbnnjbfbifihaaaGreatDoor

/-
  The contract of package formula's Size.
-/
namespace Go.Proofs.YtbnnjbfbifihaaaGreatDoor
open Go.RowKit Go.Shelf
attribute [local go_sem] Oper.semAt_some

theorem put_one (t : Array Value) (p : Tmp) (v : Value) : Array.foldl (fun (t : Array Value) (x : Tmp × Value) => t.setIfInBounds x.fst x.snd) t (#[p].zip #[v]) = t.setIfInBounds p v := by simp
theorem KeepsOthers.of_below' {X Y : World} (h : Below X.heap.size X Y) : KeepsOthers X Y := ⟨h.size, fun k _ hk _ => (h.block k (Array.getElem?_eq_some_iff.1 hk).1).trans hk⟩

set_option maxRecDepth 100000 in
set_option maxHeartbeats 4000000 in
theorem size_any (f : Fm) (B : Nat) (v : Value) (w : World) (hv : FAt B w v f) (hBw : B ≤ w.heap.size) (hE : Env w) (hn : f.nodes ≤ 999999) :
    Calls Tryz.prog 17 #[v] w fun e w' => e = .returned (.int .i64 f.nodes) ∧ Below w.heap.size w w' := by
  have hv' := hv.mono hBw
  obtain ⟨o, c, rfl, -, -⟩ := hv.open
  have hdn := f.depth_le_nodes
  obtain ⟨W0, hW0⟩ : ∃ W0, Hid (((w.alloc (.cells #[.int .i64 f.op, .string f.name, .int .i64 f.val, .int .i64 f.bound, .slice o f.args.length c] 24)).alloc (.cells #[.int .i64 0] 3)).alloc (.cells #[.int .i64 f.op, .string f.name, .int .i64 f.val, .int .i64 f.bound, .slice o f.args.length c] 24) = W0) := ⟨_, rfl⟩
  have hs0 : W0.heap.size = w.heap.size + 3 := by rw [← hW0.out]; simp
  have hB0 : Below w.heap.size w W0 := by
    rw [← hW0.out]; exact ((below_box w _).alloc (by simp) _).alloc (by simp; omega) _
  have hX : W0.heap[w.heap.size + 1 + 1]? = some (.cells #[.int .i64 f.op, .string f.name, .int .i64 f.val, .int .i64 f.bound, .slice o f.args.length c] 24 (0, 0)) := by
    rw [← hW0.out]
    have := heap_alloc_new ((w.alloc (.cells #[.int .i64 f.op, .string f.name, .int .i64 f.val, .int .i64 f.bound, .slice o f.args.length c] 24)).alloc (.cells #[.int .i64 0] 3)) (.cells #[.int .i64 f.op, .string f.name, .int .i64 f.val, .int .i64 f.bound, .slice o f.args.length c] 24)
    rwa [World.size_alloc, World.size_alloc] at this
  have hC0 : Boxed W0 (w.heap.size + 1) 3 (.int .i64 0) := by
    rw [← hW0.out]
    have := Boxed.new (w.alloc (.cells #[.int .i64 f.op, .string f.name, .int .i64 f.val, .int .i64 f.bound, .slice o f.args.length c] 24)) 3 (.int .i64 0)
    rw [World.size_alloc] at this
    exact this.alloc _
  refine (callsIn_wide (n := 6)).1 ?_
  refine callsIn_of_wp_marks Tryz.func17 rfl trivial ?_ rfl
  simp only [Tryz.ntmps17, List.size_toArray, List.length_cons, List.length_nil, Nat.reduceAdd, Nat.reduceSub, Array.replicate_succ, Array.replicate_zero, List.push_toArray, List.append_toArray, List.nil_append, List.cons_append]
  gi_wp2_with fail
  refine ⟨trivial, ?_⟩
  refine (callsIn_wide.2 (nodes_any f o c _)).mono ?_
  rintro e w' ⟨rfl, rfl⟩
  gi_wp2_with fail
  rw [hW0.out]
  refine wpIn_rangeFunc_ownF rfl (by decide) (gf := 82) (lb := #[.pointer (some ⟨w.heap.size + 1 + 1, 0, none⟩)]) rfl trivial (enters_of Tryz.func82 (by kernel_rfl) rfl)
    (nodes_stops _ w.heap.size W0.heap.size (w.heap.size + 1 + 1) w W0 hE (Nat.le_refl _) hE.pos (by omega) (Nat.le_refl _) hB0 f o c hv' (by omega) hX) kp_t (kp_b (by omega)) (Below.refl _ _) (fun _ => rfl)
    (fun pre W => Boxed W (w.heap.size + 1) 3 (.int .i64 pre.length) ∧ Below w.heap.size w W)
    (fun _ _ _ => False)
    (OwnFrom.and (Own.from (boxed_own _ _ _) _) (ownFrom_below (Nat.le_refl _) (by omega)))
    (fun _ _ _ _ _ hs _ _ => hs)
    ⟨hC0, hB0⟩
    (fun x => { tmps := #[.agg #[.int .i64 f.op, .string f.name, .int .i64 f.val, .int .i64 f.bound, .slice o f.args.length c], .pointer (some ⟨w.heap.size, 0, none⟩), .int .i64 0, .pointer (some ⟨w.heap.size + 1, 0, none⟩), .agg #[.int .i64 f.op, .string f.name, .int .i64 f.val, .int .i64 f.bound, .slice o f.args.length c], .func (.func 82) #[] #[.pointer (some ⟨w.heap.size + 1 + 1, 0, none⟩)], nval x.f x.sl x.d x.p, undef, undef, undef], defers := [] }) ?assign ?body ?done ?stop
  case assign =>
    intro l x W K hK
    gi_wp2
    unfold NV.encs
    rw [put_one]
    exact hK
  case body =>
    rintro l pre x W ⟨hc, hb⟩ hlt
    have c1 := hc.cell
    have c2 := hc.frozen
    have hp : (pre.length : Int) ≤ 999999 := by omega
    gi_wp2
    refine ⟨KeepsOthers.setCell _ _ _, kp_set _ _ (by omega) (by omega), ?_, hb.setCell (p := ⟨w.heap.size + 1, 0, none⟩) (Nat.le_succ _) _⟩
    rw [List.length_append]
    exact hc.set _
  case done =>
    rintro D xs W hD hxs ⟨hc, hb⟩ hK
    have c1 := hc.cell
    gi_wp2
    refine ⟨by simp, .inl ⟨_, _, rfl, run_takeDeferred hK, ?_⟩⟩
    have hl : xs.length = f.nodes := by rw [← nodesP_length f 1 false, ← hxs, List.length_map]
    exact ⟨_, results_tmp rfl _ _ _, by rw [hl]; rfl, hb.trans (belowK_b (w := w) (Nat.le_refl _) W D _ _ (by omega) hK rfl rfl)⟩
  case stop =>
    rintro D c' pre W _ _ h _
    exact h.elim

end Go.Proofs.YtbnnjbfbifihaaaGreatDoor

/-
  Contracts of package formula's Past and Layered.
-/
namespace Go.Proofs.YtbnnjbfbifihaaaGreatDoor
open Go.RowKit Go.Shelf
attribute [local go_sem] Oper.semAt_some

theorem results_bool {fn : Func} {p : Tmp} (h : fn.results = #[.cell p 4]) (tmps : Array Value) (w : World) (g : Nat) (b : Bool) (hp : tmps.getD p undef = .pointer (some ⟨g, 0, none⟩)) (hc : w.cell? ⟨g, 0, none⟩ = some (.bool b)) :
    (results fn tmps).run Tryz.prog w = .ok (.bool b) w := by
  have hp' : tmps[p]?.getD undef = .pointer (some ⟨g, 0, none⟩) := by simpa using hp
  simp [results, h, hp', asAddr, loadVar, hc, go_sem]

theorem Boxed.keep_deferred {W : World} {D b : Nat} {v : Value} (h : W.heap[D]? = some (.deferred (some []))) (hb : b < D) (k : Nat) : (W.setCell ⟨b, k, none⟩ v).heap[D]? = some (.deferred (some [])) :=
  (Below.heap_setCell _ _ _ _ (by show D ≠ b; omega)).trans h

theorem all_split (p q : Fm → Bool) (l : List Fm) : l.all (fun g => p g && q g) = (l.all p && l.all q) := by
  induction l with
  | nil => rfl
  | cons x l ih => simp only [List.all_cons, ih]; cases p x <;> cases q x <;> cases l.all p <;> rfl
theorem nodesPL_all (q : PN → Bool) (l : List Fm) (d : Nat) (p : Bool) : (nodesPL l d p).all q = l.all (fun g => (nodesP g d p).all q) := by
  induction l with
  | nil => rw [nodesPL_nil]; rfl
  | cons x l ih => rw [nodesPL_cons, List.all_append, List.all_cons, ih]
theorem all_congr' {p q : Fm → Bool} {l : List Fm} (h : ∀ g ∈ l, p g = q g) : l.all p = l.all q := by
  induction l with
  | nil => rfl
  | cons x l ih => rw [List.all_cons, List.all_cons, h x (List.mem_cons_self ..), ih (fun g hg => h g (List.mem_cons_of_mem _ hg))]
theorem nodesP_all (q : Fm → Bool) (f : Fm) : ∀ d p, (nodesP f d p).all (fun x => q x.1) = f.all q := by
  induction f using Fm.ind with
  | h f ih =>
    intro d p
    rw [nodesP_eq, List.all_cons, nodesPL_all, Fm.all_eq]
    congr 1
    exact all_congr' fun g hg => ih g hg _ _
theorem pastB_nodes (f : Fm) : (nodesP f 1 false).all (fun x => !(futB x.1.op)) = pastB f := nodesP_all (fun g => !futB g.op) f 1 false
theorem lay_nodes (f : Fm) : ∀ d p, (nodesP f d p).all (fun x => !(x.2.2 && futB x.1.op)) = (layB f && (!p || pastB f)) := by
  induction f using Fm.ind with
  | h f ih =>
    intro d p
    rw [nodesP_eq, List.all_cons, nodesPL_all, all_congr' (fun g hg => ih g hg _ _), layB_eq, pastB_eq]
    have h1 : f.args.all (fun _ => true) = true := by simp
    simp only [all_split]
    cases p <;> cases lateB f.op <;> cases futB f.op <;> simp only [Bool.not_true, Bool.not_false, Bool.false_or, Bool.true_or, Bool.or_false, Bool.or_true, Bool.false_and, Bool.true_and, Bool.and_true, Bool.and_false, h1] <;> (cases f.args.all layB <;> cases f.args.all pastB <;> rfl)
theorem layB_nodes (f : Fm) : (nodesP f 1 false).all (fun x => !(x.2.2 && futB x.1.op)) = layB f := by rw [lay_nodes]; simp

set_option maxRecDepth 100000 in
set_option maxHeartbeats 4000000 in
theorem past_any (f : Fm) (B : Nat) (v : Value) (w : World) (hv : FAt B w v f) (hBw : B ≤ w.heap.size) (hE : Env w) (hn : f.depth ≤ 999999) :
    Calls Tryz.prog 21 #[v] w fun e w' => e = .returned (.bool (pastB f)) ∧ Below w.heap.size w w' := by
  have hv' := hv.mono hBw
  obtain ⟨o, c, rfl, -, -⟩ := hv.open
  obtain ⟨W0, hW0⟩ : ∃ W0, Hid (((w.alloc (.cells #[.int .i64 f.op, .string f.name, .int .i64 f.val, .int .i64 f.bound, .slice o f.args.length c] 24)).alloc (.cells #[.bool false] 4)).alloc (.cells #[.int .i64 f.op, .string f.name, .int .i64 f.val, .int .i64 f.bound, .slice o f.args.length c] 24) = W0) := ⟨_, rfl⟩
  have hs0 : W0.heap.size = w.heap.size + 3 := by rw [← hW0.out]; simp
  have hB0 : Below w.heap.size w W0 := by
    rw [← hW0.out]; exact ((below_box w _).alloc (by simp) _).alloc (by simp; omega) _
  have hX : W0.heap[w.heap.size + 1 + 1]? = some (.cells #[.int .i64 f.op, .string f.name, .int .i64 f.val, .int .i64 f.bound, .slice o f.args.length c] 24 (0, 0)) := by
    rw [← hW0.out]
    have := heap_alloc_new ((w.alloc (.cells #[.int .i64 f.op, .string f.name, .int .i64 f.val, .int .i64 f.bound, .slice o f.args.length c] 24)).alloc (.cells #[.bool false] 4)) (.cells #[.int .i64 f.op, .string f.name, .int .i64 f.val, .int .i64 f.bound, .slice o f.args.length c] 24)
    rwa [World.size_alloc, World.size_alloc] at this
  have hC0 : Boxed W0 (w.heap.size + 1) 4 (.bool false) := by
    rw [← hW0.out]
    have := Boxed.new (w.alloc (.cells #[.int .i64 f.op, .string f.name, .int .i64 f.val, .int .i64 f.bound, .slice o f.args.length c] 24)) 4 (.bool false)
    rw [World.size_alloc] at this
    exact this.alloc _
  have hP : Hid ((nodesP f 1 false).all (fun x => !(futB x.1.op)) = pastB f) := by unfold Hid; exact pastB_nodes f
  refine (callsIn_wide (n := 6)).1 ?_
  refine callsIn_of_wp_marks Tryz.func21 rfl trivial ?_ rfl
  simp only [Tryz.ntmps21, List.size_toArray, List.length_cons, List.length_nil, Nat.reduceAdd, Nat.reduceSub, Array.replicate_succ, Array.replicate_zero, List.push_toArray, List.append_toArray, List.nil_append, List.cons_append]
  gi_wp2_with fail
  refine ⟨trivial, ?_⟩
  refine (callsIn_wide.2 (nodes_any f o c _)).mono ?_
  rintro e w' ⟨rfl, rfl⟩
  gi_wp2_with fail
  rw [hW0.out]
  refine wpIn_rangeFunc_ownH rfl (by decide) (gf := 82) (lb := #[.pointer (some ⟨w.heap.size + 1 + 1, 0, none⟩)]) rfl trivial (enters_of Tryz.func82 (by kernel_rfl) rfl)
    (nodes_stops _ w.heap.size W0.heap.size (w.heap.size + 1 + 1) w W0 hE (Nat.le_refl _) hE.pos (by omega) (Nat.le_refl _) hB0 f o c hv' (by omega) hX) kp_t (kp_b (by omega)) (Below.refl _ _) (fun _ => rfl)
    (fun pre W => (Boxed W (w.heap.size + 1) 4 (.bool false) ∧ Below w.heap.size w W) ∧ (pre.map NV.plain).all (fun x => !(futB x.1.op)) = true)
    (fun c' pre W => (Boxed W (w.heap.size + 1) 4 (.bool false) ∧ Below w.heap.size w W) ∧ (c' = .ret ∧ (pre.map NV.plain).all (fun x => !(futB x.1.op)) = false))
    (OwnFrom.and (OwnFrom.and (Own.from (boxed_own _ _ (fun _ => .bool false)) _) (ownFrom_below (Nat.le_refl _) (by omega))) (ownFrom_pure _ _))
    (fun _ => OwnFrom.and (OwnFrom.and (Own.from (boxed_own _ _ (fun _ => .bool false)) _) (ownFrom_below (Nat.le_refl _) (by omega))) (ownFrom_pure _ _))
    ⟨⟨hC0, hB0⟩, rfl⟩
    (fun x a' W => ∃ Bx, Cells7 W Bx x.f x.sl x.d x.p ∧ a' = { tmps := #[.agg #[.int .i64 f.op, .string f.name, .int .i64 f.val, .int .i64 f.bound, .slice o f.args.length c], .pointer (some ⟨w.heap.size, 0, none⟩), .pointer (some ⟨w.heap.size + 1, 0, none⟩), .pointer (some ⟨Bx, 0, none⟩), .agg #[.int .i64 f.op, .string f.name, .int .i64 f.val, .int .i64 f.bound, .slice o f.args.length c], .func (.func 82) #[] #[.pointer (some ⟨w.heap.size + 1 + 1, 0, none⟩)], nval x.f x.sl x.d x.p, undef, undef, undef, undef, undef], defers := [] })
    ?hax ?assign ?body ?done ?stop
  case hax =>
    rintro x a' s X Y row ⟨Bx, h2, h3⟩ hg hr
    exact ⟨Bx, (hg.block Bx (Array.getElem?_eq_some_iff.1 h2).1 (fun e => by obtain ⟨-, q, hq, hc⟩ := hr Bx e.symm; rw [show X.heap[Bx]? = _ from h2] at hq; cases hq; cases hc)).trans h2, h3⟩
  case assign =>
    rintro l pre x W K ⟨⟨hc, hb⟩, ha⟩ hK
    obtain ⟨sl, g, d, p, ok, hd⟩ := x
    obtain ⟨o1, c1, rfl⟩ := ok.slot
    unfold NV.encs
    rw [put_one]
    unfold nval
    have hsz := hb.size
    gi_wp2_with fail
    exact hK _ _ ((KeepsOthers.alloc _ _).from _) (Kp.of_below (below_box _ _) hsz) ⟨⟨hc.alloc _, hb.alloc hb.size _⟩, ha⟩ ⟨W.heap.size, heap_alloc_new W _, rfl⟩
  case body =>
    rintro l pre x a' W hl - ⟨⟨hc, hb⟩, ha⟩ ⟨Bx, h7, rfl⟩ hlt
    obtain ⟨sl, g, d, p, ok, hd⟩ := x
    have c1 := hc.cell
    have c2 := hc.frozen
    obtain ⟨q0, q1, q2, q3, q4, q5, q6⟩ := h7.cells
    clear h7
    obtain ⟨z, hx⟩ : ∃ z, Hid (tenseI g.op = z) := ⟨_, rfl⟩
    have hfu := hidi (tense_fut g.op)
    rw [hx.out] at hfu
    cases hq : (z == 2)
    · rw [hq] at hfu
      have hfu := hidi hfu.out.symm
      gi_wp2_with fail
      refine ⟨trivial, ?_⟩
      refine (CallsIn.inRound l (callsIn_wide.2 (tense_any g.op W (hE.below hb)))).mono ?_
      rintro e W' ⟨rfl, rfl⟩
      rw [hx.out]
      gi_wp2
      exact ⟨KeepsFrom.refl _ _, Kp.refl _ _ _, ⟨hc, hb⟩, by rw [List.map_append, List.all_append, ha]; simp [NV.plain, hfu.out]⟩
    · rw [hq] at hfu
      have hfu := hidi hfu.out.symm
      gi_wp2_with fail
      refine ⟨trivial, ?_⟩
      refine (CallsIn.inRound l (callsIn_wide.2 (tense_any g.op W (hE.below hb)))).mono ?_
      rintro e W' ⟨rfl, rfl⟩
      rw [hx.out]
      gi_wp2
      exact ⟨(KeepsOthers.setCell _ _ _).from _, ⟨hc.set _, hb.setCell (p := ⟨w.heap.size + 1, 0, none⟩) (Nat.le_succ _) _⟩, rfl, by rw [List.map_append, List.all_append, ha]; simp [NV.plain, hfu.out]⟩

  case done =>
    rintro D xs W hD hxs ⟨⟨hc, hb⟩, ha⟩ hK
    have c1 := hc.cell
    have c2 := hc.frozen
    have hK1 := Boxed.keep_deferred (v := .bool true) hK (show w.heap.size + 1 < D by omega) 0
    have hc1 := (hc.set (.bool true)).cell
    have hR := cell_kept hc1 (grownBy_putObj' _ D (.deferred none)) (fun r e => by cases e; exact ⟨_, hK1, rfl⟩)
    have hEq : Hid (pastB f = true) := by unfold Hid; rw [← hP.out, ← hxs]; exact ha
    have hBel := (hb.setCell (p := ⟨w.heap.size + 1, 0, none⟩) (Nat.le_succ _) (.bool true)).trans (belowK_b (w := w) (Nat.le_refl _) _ D _ (.deferred none) (by omega) hK1 rfl rfl)
    clear hc1
    have hRH := hidi hR
    clear hR
    gi_wp2
    refine ⟨by simp, .inl ⟨_, _, rfl, run_takeDeferred hK1, ?_⟩⟩
    exact ⟨_, results_bool rfl _ _ (w.heap.size + 1) true rfl hRH.out, by rw [hEq.out], hBel⟩
  case stop =>
    rintro D c' pre W hD hpre ⟨⟨hc, hb⟩, rfl, ha⟩ hK
    have hc1 := hc.cell
    have hRH := hidi (cell_kept hc1 (grownBy_putObj' _ D (.deferred none)) (fun r e => by cases e; exact ⟨_, hK, rfl⟩))
    have hEq : Hid (pastB f = false) := by
      unfold Hid
      obtain ⟨t, ht⟩ := hpre
      rw [← hP.out, ← ht, List.all_append, ha]; rfl
    have hBel := hb.trans (belowK_b (w := w) (Nat.le_refl _) _ D _ (.deferred none) (by omega) hK rfl rfl)
    gi_wp2
    refine ⟨by simp, .inl ⟨_, _, rfl, run_takeDeferred hK, ?_⟩⟩
    exact ⟨_, results_bool rfl _ _ (w.heap.size + 1) false rfl hRH.out, by rw [hEq.out], hBel⟩

set_option maxRecDepth 100000 in
set_option maxHeartbeats 4000000 in
theorem layered_any (f : Fm) (B : Nat) (v : Value) (w : World) (hv : FAt B w v f) (hBw : B ≤ w.heap.size) (hE : Env w) (hn : f.depth ≤ 999999) :
    Calls Tryz.prog 23 #[v] w fun e w' => e = .returned (.bool (layB f)) ∧ Below w.heap.size w w' := by
  have hv' := hv.mono hBw
  obtain ⟨o, c, rfl, -, -⟩ := hv.open
  obtain ⟨W0, hW0⟩ : ∃ W0, Hid (((w.alloc (.cells #[.int .i64 f.op, .string f.name, .int .i64 f.val, .int .i64 f.bound, .slice o f.args.length c] 24)).alloc (.cells #[.bool false] 4)).alloc (.cells #[.int .i64 f.op, .string f.name, .int .i64 f.val, .int .i64 f.bound, .slice o f.args.length c] 24) = W0) := ⟨_, rfl⟩
  have hs0 : W0.heap.size = w.heap.size + 3 := by rw [← hW0.out]; simp
  have hB0 : Below w.heap.size w W0 := by
    rw [← hW0.out]; exact ((below_box w _).alloc (by simp) _).alloc (by simp; omega) _
  have hX : W0.heap[w.heap.size + 1 + 1]? = some (.cells #[.int .i64 f.op, .string f.name, .int .i64 f.val, .int .i64 f.bound, .slice o f.args.length c] 24 (0, 0)) := by
    rw [← hW0.out]
    have := heap_alloc_new ((w.alloc (.cells #[.int .i64 f.op, .string f.name, .int .i64 f.val, .int .i64 f.bound, .slice o f.args.length c] 24)).alloc (.cells #[.bool false] 4)) (.cells #[.int .i64 f.op, .string f.name, .int .i64 f.val, .int .i64 f.bound, .slice o f.args.length c] 24)
    rwa [World.size_alloc, World.size_alloc] at this
  have hC0 : Boxed W0 (w.heap.size + 1) 4 (.bool false) := by
    rw [← hW0.out]
    have := Boxed.new (w.alloc (.cells #[.int .i64 f.op, .string f.name, .int .i64 f.val, .int .i64 f.bound, .slice o f.args.length c] 24)) 4 (.bool false)
    rw [World.size_alloc] at this
    exact this.alloc _
  have hP : Hid ((nodesP f 1 false).all (fun x => !(x.2.2 && futB x.1.op)) = layB f) := by unfold Hid; exact layB_nodes f
  refine (callsIn_wide (n := 6)).1 ?_
  refine callsIn_of_wp_marks Tryz.func23 rfl trivial ?_ rfl
  simp only [Tryz.ntmps23, List.size_toArray, List.length_cons, List.length_nil, Nat.reduceAdd, Nat.reduceSub, Array.replicate_succ, Array.replicate_zero, List.push_toArray, List.append_toArray, List.nil_append, List.cons_append]
  gi_wp2_with fail
  refine ⟨trivial, ?_⟩
  refine (callsIn_wide.2 (nodes_any f o c _)).mono ?_
  rintro e w' ⟨rfl, rfl⟩
  gi_wp2_with fail
  rw [hW0.out]
  refine wpIn_rangeFunc_ownH rfl (by decide) (gf := 82) (lb := #[.pointer (some ⟨w.heap.size + 1 + 1, 0, none⟩)]) rfl trivial (enters_of Tryz.func82 (by kernel_rfl) rfl)
    (nodes_stops _ w.heap.size W0.heap.size (w.heap.size + 1 + 1) w W0 hE (Nat.le_refl _) hE.pos (by omega) (Nat.le_refl _) hB0 f o c hv' (by omega) hX) kp_t (kp_b (by omega)) (Below.refl _ _) (fun _ => rfl)
    (fun pre W => (Boxed W (w.heap.size + 1) 4 (.bool false) ∧ Below w.heap.size w W) ∧ (pre.map NV.plain).all (fun x => !(x.2.2 && futB x.1.op)) = true)
    (fun c' pre W => (Boxed W (w.heap.size + 1) 4 (.bool false) ∧ Below w.heap.size w W) ∧ (c' = .ret ∧ (pre.map NV.plain).all (fun x => !(x.2.2 && futB x.1.op)) = false))
    (OwnFrom.and (OwnFrom.and (Own.from (boxed_own _ _ (fun _ => .bool false)) _) (ownFrom_below (Nat.le_refl _) (by omega))) (ownFrom_pure _ _))
    (fun _ => OwnFrom.and (OwnFrom.and (Own.from (boxed_own _ _ (fun _ => .bool false)) _) (ownFrom_below (Nat.le_refl _) (by omega))) (ownFrom_pure _ _))
    ⟨⟨hC0, hB0⟩, rfl⟩
    (fun x a' W => ∃ Bx, Cells7 W Bx x.f x.sl x.d x.p ∧ a' = { tmps := #[.agg #[.int .i64 f.op, .string f.name, .int .i64 f.val, .int .i64 f.bound, .slice o f.args.length c], .pointer (some ⟨w.heap.size, 0, none⟩), .pointer (some ⟨w.heap.size + 1, 0, none⟩), .pointer (some ⟨Bx, 0, none⟩), .agg #[.int .i64 f.op, .string f.name, .int .i64 f.val, .int .i64 f.bound, .slice o f.args.length c], .func (.func 82) #[] #[.pointer (some ⟨w.heap.size + 1 + 1, 0, none⟩)], nval x.f x.sl x.d x.p, undef, undef, undef, undef, undef, undef, undef, undef, undef], defers := [] })
    ?hax ?assign ?body ?done ?stop
  case hax =>
    rintro x a' s X Y row ⟨Bx, h2, h3⟩ hg hr
    exact ⟨Bx, (hg.block Bx (Array.getElem?_eq_some_iff.1 h2).1 (fun e => by obtain ⟨-, q, hq, hc⟩ := hr Bx e.symm; rw [show X.heap[Bx]? = _ from h2] at hq; cases hq; cases hc)).trans h2, h3⟩
  case assign =>
    rintro l pre x W K ⟨⟨hc, hb⟩, ha⟩ hK
    obtain ⟨sl, g, d, p, ok, hd⟩ := x
    obtain ⟨o1, c1, rfl⟩ := ok.slot
    unfold NV.encs
    rw [put_one]
    unfold nval
    have hsz := hb.size
    gi_wp2_with fail
    exact hK _ _ ((KeepsOthers.alloc _ _).from _) (Kp.of_below (below_box _ _) hsz) ⟨⟨hc.alloc _, hb.alloc hb.size _⟩, ha⟩ ⟨W.heap.size, heap_alloc_new W _, rfl⟩
  case body =>
    rintro l pre x a' W hl - ⟨⟨hc, hb⟩, ha⟩ ⟨Bx, h7, rfl⟩ hlt
    obtain ⟨sl, g, d, p, ok, hd⟩ := x
    have c1 := hc.cell
    have c2 := hc.frozen
    obtain ⟨q0, q1, q2, q3, q4, q5, q6⟩ := h7.cells
    clear h7
    obtain ⟨z, hx⟩ : ∃ z, Hid (tenseI g.op = z) := ⟨_, rfl⟩
    have hfu := hidi (tense_fut g.op)
    rw [hx.out] at hfu
    cases p
    · gi_wp2_with fail
      refine ⟨trivial, ?_⟩
      gi_wp2
      exact ⟨KeepsFrom.refl _ _, Kp.refl _ _ _, ⟨hc, hb⟩, by rw [List.map_append, List.all_append, ha]; simp [NV.plain]⟩
    · cases hq : (z == 2)
      · rw [hq] at hfu
        have hfu := hidi hfu.out.symm
        gi_wp2_with fail
        refine ⟨trivial, ?_⟩
        refine (CallsIn.inRound l (callsIn_wide.2 (tense_any g.op W (hE.below hb)))).mono ?_
        rintro e W' ⟨rfl, rfl⟩
        rw [hx.out]
        gi_wp2
        exact ⟨KeepsFrom.refl _ _, Kp.refl _ _ _, ⟨hc, hb⟩, by rw [List.map_append, List.all_append, ha]; simp [NV.plain, hfu.out]⟩
      · rw [hq] at hfu
        have hfu := hidi hfu.out.symm
        gi_wp2_with fail
        refine ⟨trivial, ?_⟩
        refine (CallsIn.inRound l (callsIn_wide.2 (tense_any g.op W (hE.below hb)))).mono ?_
        rintro e W' ⟨rfl, rfl⟩
        rw [hx.out]
        gi_wp2
        exact ⟨(KeepsOthers.setCell _ _ _).from _, ⟨hc.set _, hb.setCell (p := ⟨w.heap.size + 1, 0, none⟩) (Nat.le_succ _) _⟩, rfl, by rw [List.map_append, List.all_append, ha]; simp [NV.plain, hfu.out]⟩

  case done =>
    rintro D xs W hD hxs ⟨⟨hc, hb⟩, ha⟩ hK
    have c1 := hc.cell
    have c2 := hc.frozen
    have hK1 := Boxed.keep_deferred (v := .bool true) hK (show w.heap.size + 1 < D by omega) 0
    have hc1 := (hc.set (.bool true)).cell
    have hR := cell_kept hc1 (grownBy_putObj' _ D (.deferred none)) (fun r e => by cases e; exact ⟨_, hK1, rfl⟩)
    have hEq : Hid (layB f = true) := by unfold Hid; rw [← hP.out, ← hxs]; exact ha
    have hBel := (hb.setCell (p := ⟨w.heap.size + 1, 0, none⟩) (Nat.le_succ _) (.bool true)).trans (belowK_b (w := w) (Nat.le_refl _) _ D _ (.deferred none) (by omega) hK1 rfl rfl)
    clear hc1
    have hRH := hidi hR
    clear hR
    gi_wp2
    refine ⟨by simp, .inl ⟨_, _, rfl, run_takeDeferred hK1, ?_⟩⟩
    exact ⟨_, results_bool rfl _ _ (w.heap.size + 1) true rfl hRH.out, by rw [hEq.out], hBel⟩
  case stop =>
    rintro D c' pre W hD hpre ⟨⟨hc, hb⟩, rfl, ha⟩ hK
    have hc1 := hc.cell
    have hRH := hidi (cell_kept hc1 (grownBy_putObj' _ D (.deferred none)) (fun r e => by cases e; exact ⟨_, hK, rfl⟩))
    have hEq : Hid (layB f = false) := by
      unfold Hid
      obtain ⟨t, ht⟩ := hpre
      rw [← hP.out, ← ht, List.all_append, ha]; rfl
    have hBel := hb.trans (belowK_b (w := w) (Nat.le_refl _) _ D _ (.deferred none) (by omega) hK rfl rfl)
    gi_wp2
    refine ⟨by simp, .inl ⟨_, _, rfl, run_takeDeferred hK, ?_⟩⟩
    exact ⟨_, results_bool rfl _ _ (w.heap.size + 1) false rfl hRH.out, by rw [hEq.out], hBel⟩

end Go.Proofs.YtbnnjbfbifihaaaGreatDoor

/-
  The contract of package formula's kernelNode.
-/
namespace Go.Proofs.YtbnnjbfbifihaaaGreatDoor
open Go.RowKit

theorem dual_core {o : Int} (h : 1 ≤ o ∧ o ≤ 19) : (fDual o.toNat != 0) = coreOpB o := by
  rcases op_cases h with rfl | rfl | rfl | rfl | rfl | rfl | rfl | rfl | rfl | rfl | rfl | rfl | rfl | rfl | rfl | rfl | rfl | rfl | rfl <;> rfl

set_option maxRecDepth 100000 in
set_option maxHeartbeats 2000000 in
theorem kernelNode_any (f : Fm) (B : Nat) (v : Value) (w : World) (hv : FAt B w v f) (hBw : B ≤ w.heap.size) (hE : Env w) :
    Calls Tryz.prog 91 #[v] w fun e w' => e = .returned (.bool (nodeB f && coreNodeB f)) ∧ Below w.heap.size w w' := by
  have hv' := hv.mono hBw
  obtain ⟨o, c, rfl, hfit, hA⟩ := hv'.open
  obtain ⟨W0, hW0, hB0, hc, hlt⟩ := fm_open w (.int .i64 f.op) (.string f.name) (.int .i64 f.val) (.int .i64 f.bound) (.slice o f.args.length c)
  obtain ⟨d0, d1, d2, d3, d4⟩ := hc.out
  rw [Nat.zero_add] at d1 d2 d3 d4
  cases hn : nodeB f
  · go_enter Tryz.func91, Tryz.ntmps91
    go_wp2_with fail
    rw [hW0.out]
    go_wp2_with (go_at_call 54; refine (proper_any f w.heap.size _ _ (hv'.kept hB0 (Nat.le_refl _)) (hE.below hB0)).mono ?_; rintro e w1 ⟨rfl, hb1⟩; rw [hn]; have hB := hB0.trans (hb1.mono hB0.size))
    go_ret
    exact ⟨rfl, hB⟩
  · have hk := nodeB_known hn
    have hln := nodeB_len hn
    have hdu := hidi (dual_core hk)
    obtain ⟨k, hkk⟩ := Int.eq_ofNat_of_zero_le (show 0 ≤ f.op by omega)
    have hk2 : k < 20 := by omega
    have hR := hidi (p := ∀ X : World, Below w.heap.size w X → X.cell? ⟨0, k * 7 + 6, none⟩ = some (.int .i64 (fDual k))) fun X h => ((hE.below h).row k hk2).2.2.2.2.2.2
    have g1 : (0 : Int) ≤ f.op := by omega
    have g2 : f.op < 20 := by omega
    have g3 : f.op.toNat = k := by omega
    obtain ⟨z, hz⟩ : ∃ z, Hid (fDual k = z) := ⟨_, rfl⟩
    rw [hkk, Int.toNat_natCast, ← hkk, hz.out] at hdu
    have hkH := hidi hkk
    clear hkk
    cases hco : coreOpB f.op
    · rw [hco] at hdu
      have z1 : (z != 0) = false := hdu.out
      have z2 : (z == 0) = true := by simpa [bne] using z1
      have hF : Hid (coreNodeB f = false) := by unfold Hid coreNodeB; rw [hco]; rfl
      clear hk hln
      go_enter Tryz.func91, Tryz.ntmps91
      go_wp2_with fail
      rw [hW0.out]
      go_wp2_with (go_at_call 54; refine (proper_any f w.heap.size _ _ (hv'.kept hB0 (Nat.le_refl _)) (hE.below hB0)).mono ?_; rintro e w1 ⟨rfl, hb1⟩; rw [hn]; have hB := hB0.trans (hb1.mono hB0.size); clear d0 d1 d2 d3 d4; obtain ⟨d0, d1, d2, d3, d4⟩ := hc.out.later hb1 hlt; rw [Nat.zero_add] at d1 d2 d3 d4; have r6 := hR.out _ hB; rw [hz.out] at r6)
      go_ret
      exact ⟨ret_bool (by rw [hF.out]; rfl), hB⟩
    · rw [hco] at hdu
      have z1 : (z != 0) = true := hdu.out
      have z2 : (z == 0) = false := by simpa [bne] using z1
      cases e4 : (f.op == 4)
      · have e5 : (f.op != 4) = true := by simp [bne, e4]
        have hF : Hid (coreNodeB f = true) := by unfold Hid coreNodeB; rw [hco, e4]; rfl
        clear hk hln
        go_enter Tryz.func91, Tryz.ntmps91
        go_wp2_with fail
        rw [hW0.out]
        go_wp2_with (go_at_call 54; refine (proper_any f w.heap.size _ _ (hv'.kept hB0 (Nat.le_refl _)) (hE.below hB0)).mono ?_; rintro e w1 ⟨rfl, hb1⟩; rw [hn]; have hB := hB0.trans (hb1.mono hB0.size); clear d0 d1 d2 d3 d4; obtain ⟨d0, d1, d2, d3, d4⟩ := hc.out.later hb1 hlt; rw [Nat.zero_add] at d1 d2 d3 d4; have r6 := hR.out _ hB; rw [hz.out] at r6)
        go_ret
        exact ⟨ret_bool (by rw [hF.out]; rfl), hB⟩
      · have e5 : (f.op != 4) = false := by simp [bne, e4]
        have h0 : 0 < f.args.length := by
          have h4 : f.op = 4 := by simpa using e4
          rw [h4] at hln
          simp [fLeast, fMost, formRow, formsRows] at hln
          omega
        have hA0 := hidi (arg0_eq h0)
        obtain ⟨b, off, rfl, hb, hat⟩ := hA.at h0
        obtain ⟨sl, hc5, hF5⟩ := hat 0 h0
        obtain ⟨x, hx⟩ : ∃ x : Int, Hid (f.args[0].op = x) := ⟨f.args[0].op, hidi rfl⟩
        have hC := hidi (p := ∀ X : World, Below w.heap.size w X → X.cell? ⟨b, off + 0 * 5, none⟩ = some (.int .i64 f.args[0].op)) fun X h => (hc5.below h hb).1
        rw [hx.out] at hA0
        have h0' : (0 : Int) < (f.args.length : Int) := by omega
        have hF : Hid (coreNodeB f = (x == 3)) := by unfold Hid coreNodeB; rw [hco, e4, hA0.out]; rfl
        clear hk hln
        go_enter Tryz.func91, Tryz.ntmps91
        go_wp2_with fail
        rw [hW0.out]
        go_wp2_with (go_at_call 54; refine (proper_any f w.heap.size _ _ (hv'.kept hB0 (Nat.le_refl _)) (hE.below hB0)).mono ?_; rintro e w1 ⟨rfl, hb1⟩; rw [hn]; have hB := hB0.trans (hb1.mono hB0.size); clear d0 d1 d2 d3 d4; obtain ⟨d0, d1, d2, d3, d4⟩ := hc.out.later hb1 hlt; rw [Nat.zero_add] at d1 d2 d3 d4; have r6 := hR.out _ hB; rw [hz.out] at r6; have e0 := hC.out _ hB; rw [Nat.zero_mul, Nat.add_zero, hx.out] at e0)
        go_ret
        exact ⟨ret_bool (by rw [hF.out]; rfl), hB⟩

end Go.Proofs.YtbnnjbfbifihaaaGreatDoor

/-
  The contract of package formula's limited.
-/
namespace Go.Proofs.YtbnnjbfbifihaaaGreatDoor
open Go.RowKit Go.Shelf
attribute [local go_sem] Oper.semAt_some

theorem seven_boxes (w : World) (a b c d e f g : Obj) : ∃ W0, Hid (((((((w.alloc a).alloc b).alloc c).alloc d).alloc e).alloc f).alloc g = W0) ∧ W0.heap.size = w.heap.size + 7 ∧ Below w.heap.size w W0 ∧ W0.heap[w.heap.size + 1 + 1 + 1 + 1 + 1 + 1]? = some g ∧
    ((W0.heap[w.heap.size + 1]? = some b ∧ W0.heap[w.heap.size + 1 + 1]? = some c ∧ W0.heap[w.heap.size + 1 + 1 + 1]? = some d ∧ W0.heap[w.heap.size + 1 + 1 + 1 + 1]? = some e) ∧ W0.heap[w.heap.size + 1 + 1 + 1 + 1 + 1]? = some f) := by
  have go : ∀ (X : World) (k : Nat) (o p : Obj), X.heap[k]? = some o → (X.alloc p).heap[k]? = some o := fun X k o p h => (Below.heap_alloc X p k (Array.getElem?_eq_some_iff.1 h).1).trans h
  have new : ∀ (X : World) (k : Nat) (o : Obj), X.heap.size = k → (X.alloc o).heap[k]? = some o := fun X k o h => by subst h; exact heap_alloc_new X o
  have hB : ∀ (X : World) (o : Obj), Below w.heap.size w X → Below w.heap.size w (X.alloc o) := fun X o h => h.alloc h.size o
  refine ⟨_, rfl, by simp, hB _ _ (hB _ _ (hB _ _ (hB _ _ (hB _ _ (hB _ _ (hB _ _ (Below.refl _ _))))))), new _ _ _ (by simp), ⟨?_, ?_, ?_, ?_⟩, ?_⟩
  · exact go _ _ _ _ (go _ _ _ _ (go _ _ _ _ (go _ _ _ _ (go _ _ _ _ (new _ _ _ (by simp))))))
  · exact go _ _ _ _ (go _ _ _ _ (go _ _ _ _ (go _ _ _ _ (new _ _ _ (by simp)))))
  · exact go _ _ _ _ (go _ _ _ _ (go _ _ _ _ (new _ _ _ (by simp))))
  · exact go _ _ _ _ (go _ _ _ _ (new _ _ _ (by simp)))
  · exact go _ _ _ _ (new _ _ _ (by simp))

set_option maxRecDepth 100000 in
set_option maxHeartbeats 8000000 in
theorem limited_proper (f : Fm) (B : Nat) (v : Value) (sz dp : Nat) (w : World) (hv : FAt B w v f) (hBw : B ≤ w.heap.size) (hE : Env w) (hn : f.nodes ≤ 999999) (hz1 : sz ≤ 1000) :
    Calls Tryz.prog 53 #[v, .int .i64 sz, .int .i64 dp, .func (.func 54) #[] #[]] w fun e w' => e = .returned (.bool (decide (f.nodes ≤ sz) && (nodesP f 1 false).all (fun x : PN => decide (x.2.1 ≤ dp) && nodeB x.1))) ∧ Below w.heap.size w w' := by
  have hv' := hv.mono hBw
  obtain ⟨o, c, rfl, -, -⟩ := hv.open
  have hdn := f.depth_le_nodes
  obtain ⟨W0, hW0, hs0, hB0, hX, hCs⟩ : ∃ W0, Hid ((((((((w.alloc (.cells #[.int .i64 f.op, .string f.name, .int .i64 f.val, .int .i64 f.bound, .slice o f.args.length c] 24)).alloc (.cells #[.int .i64 sz] 3)).alloc (.cells #[.int .i64 dp] 3)).alloc (.cells #[.func (.func 54) #[] #[]] 28)).alloc (.cells #[.bool false] 4)).alloc (.cells #[.int .i64 0] 3)).alloc (.cells #[.int .i64 f.op, .string f.name, .int .i64 f.val, .int .i64 f.bound, .slice o f.args.length c] 24)) = W0) ∧ W0.heap.size = w.heap.size + 7 ∧ Below w.heap.size w W0 ∧ W0.heap[w.heap.size + 1 + 1 + 1 + 1 + 1 + 1]? = some (.cells #[.int .i64 f.op, .string f.name, .int .i64 f.val, .int .i64 f.bound, .slice o f.args.length c] 24 (0, 0)) ∧ (fun W => (Boxed W (w.heap.size + 1) 3 (.int .i64 sz) ∧ Boxed W (w.heap.size + 1 + 1) 3 (.int .i64 dp) ∧ Boxed W (w.heap.size + 1 + 1 + 1) 28 (.func (.func 54) #[] #[]) ∧ Boxed W (w.heap.size + 1 + 1 + 1 + 1) 4 (.bool false)) ∧ Boxed W (w.heap.size + 1 + 1 + 1 + 1 + 1) 3 (.int .i64 0)) W0 := seven_boxes w _ _ _ _ _ _ _
  obtain ⟨⟨k1, k2, k3, k4⟩, k5⟩ := hCs
  refine (callsIn_wide (n := 6)).1 ?_
  refine callsIn_of_wp_marks Tryz.func53 rfl trivial ?_ rfl
  simp only [Tryz.ntmps53, List.size_toArray, List.length_cons, List.length_nil, Nat.reduceAdd, Nat.reduceSub, Array.replicate_succ, Array.replicate_zero, List.push_toArray, List.append_toArray, List.nil_append, List.cons_append]
  gi_wp2_with fail
  refine ⟨trivial, ?_⟩
  refine (callsIn_wide.2 (nodes_any f o c _)).mono ?_
  rintro e w' ⟨rfl, rfl⟩
  gi_wp2_with fail
  rw [hW0.out]
  refine wpIn_rangeFunc_ownH rfl (by decide) (gf := 82) (lb := #[.pointer (some ⟨w.heap.size + 1 + 1 + 1 + 1 + 1 + 1, 0, none⟩)]) rfl trivial (enters_of Tryz.func82 (by kernel_rfl) rfl)
    (nodes_stops _ w.heap.size W0.heap.size (w.heap.size + 1 + 1 + 1 + 1 + 1 + 1) w W0 hE (Nat.le_refl _) hE.pos (by omega) (Nat.le_refl _) hB0 f o c hv' (by omega) hX) kp_t (kp_b (by omega)) (Below.refl _ _) (fun _ => rfl)
    (fun pre W => (((Boxed W (w.heap.size + 1) 3 (.int .i64 sz) ∧ Boxed W (w.heap.size + 1 + 1) 3 (.int .i64 dp) ∧ Boxed W (w.heap.size + 1 + 1 + 1) 28 (.func (.func 54) #[] #[]) ∧ Boxed W (w.heap.size + 1 + 1 + 1 + 1) 4 (.bool false)) ∧ Boxed W (w.heap.size + 1 + 1 + 1 + 1 + 1) 3 (.int .i64 pre.length)) ∧ (Below w.heap.size w W ∧ W0.heap.size ≤ W.heap.size)) ∧ (decide (pre.length ≤ sz) && (pre.map NV.plain).all (fun x : PN => decide (x.2.1 ≤ dp) && nodeB x.1)) = true)
    (fun c' pre W => ((Boxed W (w.heap.size + 1) 3 (.int .i64 sz) ∧ Boxed W (w.heap.size + 1 + 1) 3 (.int .i64 dp) ∧ Boxed W (w.heap.size + 1 + 1 + 1) 28 (.func (.func 54) #[] #[]) ∧ Boxed W (w.heap.size + 1 + 1 + 1 + 1) 4 (.bool false)) ∧ Below w.heap.size w W) ∧ (c' = .ret ∧ (decide (pre.length ≤ sz) && (pre.map NV.plain).all (fun x : PN => decide (x.2.1 ≤ dp) && nodeB x.1)) = false))
    (OwnFrom.and (OwnFrom.and (OwnFrom.and (OwnFrom.and (Own.from (boxed_own (w.heap.size + 1) 3 (fun _ => .int .i64 sz)) _) (OwnFrom.and (Own.from (boxed_own (w.heap.size + 1 + 1) 3 (fun _ => .int .i64 dp)) _) (OwnFrom.and (Own.from (boxed_own (w.heap.size + 1 + 1 + 1) 28 (fun _ => .func (.func 54) #[] #[])) _) (Own.from (boxed_own (w.heap.size + 1 + 1 + 1 + 1) 4 (fun _ => .bool false)) _)))) (Own.from (boxed_own (w.heap.size + 1 + 1 + 1 + 1 + 1) 3 (fun pre : List (NV w.heap.size w) => .int .i64 pre.length)) _)) (OwnFrom.and (ownFrom_below (Nat.le_refl _) (by omega)) (fun _ _ _ _ hs hg _ => Nat.le_trans hs hg.size))) (ownFrom_pure _ _))
    (fun _ => OwnFrom.and (OwnFrom.and (OwnFrom.and (Own.from (boxed_own (w.heap.size + 1) 3 (fun _ => .int .i64 sz)) _) (OwnFrom.and (Own.from (boxed_own (w.heap.size + 1 + 1) 3 (fun _ => .int .i64 dp)) _) (OwnFrom.and (Own.from (boxed_own (w.heap.size + 1 + 1 + 1) 28 (fun _ => .func (.func 54) #[] #[])) _) (Own.from (boxed_own (w.heap.size + 1 + 1 + 1 + 1) 4 (fun _ => .bool false)) _)))) (ownFrom_below (Nat.le_refl _) (by omega))) (ownFrom_pure _ _))
    ⟨⟨⟨⟨k1, k2, k3, k4⟩, k5⟩, hB0, Nat.le_refl _⟩, by simp⟩
    (fun x a' W => ∃ Bx, W0.heap.size ≤ Bx ∧ Cells7 W Bx x.f x.sl x.d x.p ∧ a' = { tmps := #[.agg #[.int .i64 f.op, .string f.name, .int .i64 f.val, .int .i64 f.bound, .slice o f.args.length c], .int .i64 sz, .int .i64 dp, .func (.func 54) #[] #[], .pointer (some ⟨w.heap.size, 0, none⟩), .pointer (some ⟨w.heap.size + 1, 0, none⟩), .pointer (some ⟨w.heap.size + 1 + 1, 0, none⟩), .pointer (some ⟨w.heap.size + 1 + 1 + 1, 0, none⟩), .pointer (some ⟨w.heap.size + 1 + 1 + 1 + 1, 0, none⟩), .pointer (some ⟨w.heap.size + 1 + 1 + 1 + 1 + 1, 0, none⟩), .pointer (some ⟨Bx, 0, none⟩), .agg #[.int .i64 f.op, .string f.name, .int .i64 f.val, .int .i64 f.bound, .slice o f.args.length c], .func (.func 82) #[] #[.pointer (some ⟨w.heap.size + 1 + 1 + 1 + 1 + 1 + 1, 0, none⟩)], nval x.f x.sl x.d x.p, undef, undef, undef, undef, undef, undef, undef, undef, undef, undef, undef, undef, undef, undef, undef, undef, undef, undef], defers := [] })
    ?hax ?assign ?body ?done ?stop
  case hax =>
    rintro x a' s X Y row ⟨Bx, h1, h2, h3⟩ hg hr
    exact ⟨Bx, h1, (hg.block Bx (Array.getElem?_eq_some_iff.1 h2).1 (fun e => by obtain ⟨-, q, hq, hc⟩ := hr Bx e.symm; rw [show X.heap[Bx]? = _ from h2] at hq; cases hq; cases hc)).trans h2, h3⟩
  case assign =>
    rintro l pre x W K ⟨⟨⟨⟨k1, k2, k3, k4⟩, k5⟩, hb, hw0⟩, ha⟩ hK
    obtain ⟨sl, g, d, p, ok, hd⟩ := x
    obtain ⟨o1, c1, rfl⟩ := ok.slot
    unfold NV.encs
    rw [put_one]
    unfold nval
    have hsz := hb.size
    gi_wp2_with fail
    exact hK _ _ ((KeepsOthers.alloc _ _).from _) (Kp.of_below (below_box _ _) hsz) ⟨⟨⟨⟨k1.alloc _, k2.alloc _, k3.alloc _, k4.alloc _⟩, k5.alloc _⟩, hb.alloc hb.size _, Nat.le_trans hw0 (below_box _ _).size⟩, ha⟩ ⟨W.heap.size, hw0, heap_alloc_new W _, rfl⟩
  case body =>
    rintro l pre x a' W hl - ⟨⟨⟨⟨k1, k2, k3, k4⟩, k5⟩, hb, hw0⟩, ha⟩ ⟨Bx, hBx, h7, rfl⟩ hlt
    obtain ⟨sl, g, d, p, ok, hd⟩ := x
    rw [Bool.and_eq_true, decide_eq_true_eq] at ha
    obtain ⟨ha1, ha2⟩ := ha
    have hpl : (pre.length : Int) ≤ 1000 := by omega
    have hdd : (d : Int) ≤ 1000000 := by omega
    have c1 := k5.cell
    have c2 := k5.frozen
    obtain ⟨W1, hW1⟩ : ∃ W1, Hid (W.setCell ⟨w.heap.size + 1 + 1 + 1 + 1 + 1, 0, none⟩ (.int .i64 ((pre.length : Int) + 1)) = W1) := ⟨_, rfl⟩
    have kk1 : Boxed W1 (w.heap.size + 1) 3 (.int .i64 sz) := by rw [← hW1.out]; exact k1.other (by omega) _
    have kk2 : Boxed W1 (w.heap.size + 1 + 1) 3 (.int .i64 dp) := by rw [← hW1.out]; exact k2.other (by omega) _
    have kk3 : Boxed W1 (w.heap.size + 1 + 1 + 1) 28 (.func (.func 54) #[] #[]) := by rw [← hW1.out]; exact k3.other (by omega) _
    have kk4 : Boxed W1 (w.heap.size + 1 + 1 + 1 + 1) 4 (.bool false) := by rw [← hW1.out]; exact k4.other (by omega) _
    have kk5 : Boxed W1 (w.heap.size + 1 + 1 + 1 + 1 + 1) 3 (.int .i64 ((pre.length : Int) + 1)) := by rw [← hW1.out]; exact k5.set _
    have hb1 : Below w.heap.size w W1 := by rw [← hW1.out]; exact hb.setCell (p := ⟨w.heap.size + 1 + 1 + 1 + 1 + 1, 0, none⟩) (by show w.heap.size ≤ w.heap.size + 1 + 1 + 1 + 1 + 1; omega) _
    have hkp : Kp w.heap.size W0.heap.size W W1 := by rw [← hW1.out]; exact kp_set _ _ (by omega) (by omega)
    have hkf : KeepsFrom W0.heap.size W W1 := by rw [← hW1.out]; exact (KeepsOthers.setCell _ _ _).from _
    have h77 : Cells7 W1 Bx g sl d p := hkp.high _ _ hBx h7 rfl
    have hwsz : W0.heap.size ≤ W1.heap.size := Nat.le_trans hw0 hkf.size
    obtain ⟨q0, q1, q2, q3, q4, q5, q6⟩ := h77.cells
    have y1 := kk1.cell
    have y2 := kk2.cell
    have y3 := kk3.cell
    have y4 := kk4.cell
    have y5 := kk5.cell
    have y6 := kk4.frozen
    rw [← hW1.out] at q0 q1 q2 q3 q4 q5 y1 y2 y3 y4 y5 y6
    have hfin : ∀ (W2 : World), Below W1.heap.size W1 W2 → Boxed W2 (w.heap.size + 1 + 1 + 1 + 1) 4 (.bool false) ∧ ((Boxed (W2.setCell ⟨w.heap.size + 1 + 1 + 1 + 1, 0, none⟩ (.bool false)) (w.heap.size + 1) 3 (.int .i64 sz) ∧ Boxed (W2.setCell ⟨w.heap.size + 1 + 1 + 1 + 1, 0, none⟩ (.bool false)) (w.heap.size + 1 + 1) 3 (.int .i64 dp) ∧ Boxed (W2.setCell ⟨w.heap.size + 1 + 1 + 1 + 1, 0, none⟩ (.bool false)) (w.heap.size + 1 + 1 + 1) 28 (.func (.func 54) #[] #[]) ∧ Boxed (W2.setCell ⟨w.heap.size + 1 + 1 + 1 + 1, 0, none⟩ (.bool false)) (w.heap.size + 1 + 1 + 1 + 1) 4 (.bool false)) ∧ Below w.heap.size w (W2.setCell ⟨w.heap.size + 1 + 1 + 1 + 1, 0, none⟩ (.bool false))) ∧ KeepsFrom W0.heap.size W (W2.setCell ⟨w.heap.size + 1 + 1 + 1 + 1, 0, none⟩ (.bool false)) := fun W2 h => by
      have j1 : Boxed W2 (w.heap.size + 1) 3 (.int .i64 sz) := (h.block _ kk1.lt).trans kk1
      have j2 : Boxed W2 (w.heap.size + 1 + 1) 3 (.int .i64 dp) := (h.block _ kk2.lt).trans kk2
      have j3 : Boxed W2 (w.heap.size + 1 + 1 + 1) 28 (.func (.func 54) #[] #[]) := (h.block _ kk3.lt).trans kk3
      have j4 : Boxed W2 (w.heap.size + 1 + 1 + 1 + 1) 4 (.bool false) := (h.block _ kk4.lt).trans kk4
      exact ⟨j4, ⟨⟨j1.other (by omega) _, j2.other (by omega) _, j3.other (by omega) _, j4.set _⟩, (hb1.trans (h.mono hb1.size)).setCell (p := ⟨w.heap.size + 1 + 1 + 1 + 1, 0, none⟩) (by show w.heap.size ≤ w.heap.size + 1 + 1 + 1 + 1; omega) _⟩, hkf.trans (((KeepsOthers.of_below' h).from _).trans ((KeepsOthers.setCell _ _ _).from _))⟩
    by_cases hA : sz < pre.length + 1
    · have hF : Hid ((decide ((pre ++ [(⟨sl, g, d, p, ok, hd⟩ : NV w.heap.size w)]).length ≤ sz) && ((pre ++ [(⟨sl, g, d, p, ok, hd⟩ : NV w.heap.size w)]).map NV.plain).all (fun x : PN => decide (x.2.1 ≤ dp) && nodeB x.1)) = false) := by
        unfold Hid; rw [decide_eq_false (by rw [List.length_append]; simp; omega)]; rfl
      have hA2 : (sz : Int) < (pre.length : Int) + 1 := by omega
      gi_wp2_with fail
      refine ⟨fun _ h => (by cases h), ?_⟩
      gi_wp2_with fail
      rw [hW1.out]
      obtain ⟨-, f2, f3⟩ := hfin W1 (Below.refl _ _)
      exact ⟨f3, f2, rfl, hF.out⟩
    · have hA2 : (pre.length : Int) + 1 ≤ (sz : Int) := by omega
      by_cases hD : dp < d
      · have hF : Hid ((decide ((pre ++ [(⟨sl, g, d, p, ok, hd⟩ : NV w.heap.size w)]).length ≤ sz) && ((pre ++ [(⟨sl, g, d, p, ok, hd⟩ : NV w.heap.size w)]).map NV.plain).all (fun x : PN => decide (x.2.1 ≤ dp) && nodeB x.1)) = false) := by
          unfold Hid; rw [List.map_append, List.all_append]; simp [NV.plain]; intros; omega
        have hD2 : (dp : Int) < (d : Int) := by omega
        gi_wp2_with fail
        refine ⟨fun _ h => (by cases h), ?_⟩
        gi_wp2_with fail
        rw [hW1.out]
        obtain ⟨-, f2, f3⟩ := hfin W1 (Below.refl _ _)
        exact ⟨f3, f2, rfl, hF.out⟩
      · have hD2 : (d : Int) ≤ (dp : Int) := by omega
        cases hq : nodeB g
        · have hF : Hid ((decide ((pre ++ [(⟨sl, g, d, p, ok, hd⟩ : NV w.heap.size w)]).length ≤ sz) && ((pre ++ [(⟨sl, g, d, p, ok, hd⟩ : NV w.heap.size w)]).map NV.plain).all (fun x : PN => decide (x.2.1 ≤ dp) && nodeB x.1)) = false) := by
            unfold Hid; rw [List.map_append, List.all_append]; simp only [List.map_cons, List.map_nil, List.all_cons, List.all_nil, NV.plain, hq, Bool.and_false, Bool.false_and]
          gi_wp2_with fail
          refine ⟨trivial, ?_⟩
          rw [hW1.out]
          refine (CallsIn.inRound l (callsIn_wide.2 (proper_any g w.heap.size _ _ (ok.kept hb1 (Nat.le_refl _)) (hE.below hb1)))).mono ?_
          rintro e W2 ⟨rfl, hb2⟩
          rw [hq]
          obtain ⟨f1, f2, f3⟩ := hfin W2 hb2
          have z1 := f1.cell
          have z2 := f1.frozen
          clear q0 q1 q2 q3 q4 q5 y1 y2 y3 y4 y5 y6
          gi_wp2_with fail
          exact ⟨f3, f2, rfl, hF.out⟩
        · have hF : Hid ((decide ((pre ++ [(⟨sl, g, d, p, ok, hd⟩ : NV w.heap.size w)]).length ≤ sz) && ((pre ++ [(⟨sl, g, d, p, ok, hd⟩ : NV w.heap.size w)]).map NV.plain).all (fun x : PN => decide (x.2.1 ≤ dp) && nodeB x.1)) = true) := by
            unfold Hid
            rw [List.map_append, List.all_append, ha2, decide_eq_true (by rw [List.length_append]; simp; omega)]
            simp only [List.map_cons, List.map_nil, List.all_cons, List.all_nil, NV.plain, hq, Bool.and_true, Bool.true_and, decide_eq_true_eq]
            omega
          gi_wp2_with fail
          refine ⟨trivial, ?_⟩
          rw [hW1.out]
          refine (CallsIn.inRound l (callsIn_wide.2 (proper_any g w.heap.size _ _ (ok.kept hb1 (Nat.le_refl _)) (hE.below hb1)))).mono ?_
          rintro e W2 ⟨rfl, hb2⟩
          rw [hq]
          clear q0 q1 q2 q3 q4 q5 y1 y2 y3 y4 y5 y6
          gi_wp2_with fail
          refine ⟨hkf.trans ((KeepsOthers.of_below' hb2).from _), hkp.trans (Kp.of_below hb2 hb1.size), ⟨⟨⟨(hb2.block _ kk1.lt).trans kk1, (hb2.block _ kk2.lt).trans kk2, (hb2.block _ kk3.lt).trans kk3, (hb2.block _ kk4.lt).trans kk4⟩, ?_⟩, hb1.trans (hb2.mono hb1.size), Nat.le_trans hwsz hb2.size⟩, hF.out⟩
          rw [List.length_append]
          exact (hb2.block _ kk5.lt).trans kk5
  case done =>
    rintro D xs W hD hxs ⟨⟨⟨⟨-, -, -, k4⟩, -⟩, hb, -⟩, ha⟩ hK
    have c1 := k4.cell
    have c2 := k4.frozen
    have hK1 := Boxed.keep_deferred (v := .bool true) hK (show w.heap.size + 1 + 1 + 1 + 1 < D by omega) 0
    have hc1 := (k4.set (.bool true)).cell
    have hRH := hidi (cell_kept hc1 (grownBy_putObj' _ D (.deferred none)) (fun r e => by cases e; exact ⟨_, hK1, rfl⟩))
    have hEq : Hid ((decide (f.nodes ≤ sz) && (nodesP f 1 false).all (fun x : PN => decide (x.2.1 ≤ dp) && nodeB x.1)) = true) := by
      unfold Hid; rw [← nodesP_length f 1 false, ← hxs, List.length_map]; exact ha
    have hBel := (hb.setCell (p := ⟨w.heap.size + 1 + 1 + 1 + 1, 0, none⟩) (by show w.heap.size ≤ w.heap.size + 1 + 1 + 1 + 1; omega) (.bool true)).trans (belowK_b (w := w) (Nat.le_refl _) _ D _ (.deferred none) (by omega) hK1 rfl rfl)
    clear hc1
    gi_wp2
    refine ⟨by simp, .inl ⟨_, _, rfl, run_takeDeferred hK1, ?_⟩⟩
    exact ⟨_, results_bool rfl _ _ (w.heap.size + 1 + 1 + 1 + 1) true rfl hRH.out, by rw [hEq.out], hBel⟩
  case stop =>
    rintro D c' pre W hD hpre ⟨⟨⟨-, -, -, k4⟩, hb⟩, rfl, ha⟩ hK
    have hc1 := k4.cell
    have hRH := hidi (cell_kept hc1 (grownBy_putObj' _ D (.deferred none)) (fun r e => by cases e; exact ⟨_, hK, rfl⟩))
    have hEq : Hid ((decide (f.nodes ≤ sz) && (nodesP f 1 false).all (fun x : PN => decide (x.2.1 ≤ dp) && nodeB x.1)) = false) := by
      unfold Hid
      obtain ⟨t, ht⟩ := hpre
      rw [← nodesP_length f 1 false, ← ht, List.length_append, List.length_map, List.all_append]
      rcases Bool.and_eq_false_iff.1 ha with h | h
      · rw [decide_eq_false (by have := of_decide_eq_false h; omega)]; rfl
      · rw [h]; simp
    have hBel := hb.trans (belowK_b (w := w) (Nat.le_refl _) _ D _ (.deferred none) (by omega) hK rfl rfl)
    gi_wp2
    refine ⟨by simp, .inl ⟨_, _, rfl, run_takeDeferred hK, ?_⟩⟩
    exact ⟨_, results_bool rfl _ _ (w.heap.size + 1 + 1 + 1 + 1) false rfl hRH.out, by rw [hEq.out], hBel⟩

set_option maxRecDepth 100000 in
set_option maxHeartbeats 8000000 in
theorem limited_kernel (f : Fm) (B : Nat) (v : Value) (sz dp : Nat) (w : World) (hv : FAt B w v f) (hBw : B ≤ w.heap.size) (hE : Env w) (hn : f.nodes ≤ 999999) (hz1 : sz ≤ 1000) :
    Calls Tryz.prog 53 #[v, .int .i64 sz, .int .i64 dp, .func (.func 91) #[] #[]] w fun e w' => e = .returned (.bool (decide (f.nodes ≤ sz) && (nodesP f 1 false).all (fun x : PN => decide (x.2.1 ≤ dp) && (nodeB x.1 && coreNodeB x.1)))) ∧ Below w.heap.size w w' := by
  have hv' := hv.mono hBw
  obtain ⟨o, c, rfl, -, -⟩ := hv.open
  have hdn := f.depth_le_nodes
  obtain ⟨W0, hW0, hs0, hB0, hX, hCs⟩ : ∃ W0, Hid ((((((((w.alloc (.cells #[.int .i64 f.op, .string f.name, .int .i64 f.val, .int .i64 f.bound, .slice o f.args.length c] 24)).alloc (.cells #[.int .i64 sz] 3)).alloc (.cells #[.int .i64 dp] 3)).alloc (.cells #[.func (.func 91) #[] #[]] 28)).alloc (.cells #[.bool false] 4)).alloc (.cells #[.int .i64 0] 3)).alloc (.cells #[.int .i64 f.op, .string f.name, .int .i64 f.val, .int .i64 f.bound, .slice o f.args.length c] 24)) = W0) ∧ W0.heap.size = w.heap.size + 7 ∧ Below w.heap.size w W0 ∧ W0.heap[w.heap.size + 1 + 1 + 1 + 1 + 1 + 1]? = some (.cells #[.int .i64 f.op, .string f.name, .int .i64 f.val, .int .i64 f.bound, .slice o f.args.length c] 24 (0, 0)) ∧ (fun W => (Boxed W (w.heap.size + 1) 3 (.int .i64 sz) ∧ Boxed W (w.heap.size + 1 + 1) 3 (.int .i64 dp) ∧ Boxed W (w.heap.size + 1 + 1 + 1) 28 (.func (.func 91) #[] #[]) ∧ Boxed W (w.heap.size + 1 + 1 + 1 + 1) 4 (.bool false)) ∧ Boxed W (w.heap.size + 1 + 1 + 1 + 1 + 1) 3 (.int .i64 0)) W0 := seven_boxes w _ _ _ _ _ _ _
  obtain ⟨⟨k1, k2, k3, k4⟩, k5⟩ := hCs
  refine (callsIn_wide (n := 6)).1 ?_
  refine callsIn_of_wp_marks Tryz.func53 rfl trivial ?_ rfl
  simp only [Tryz.ntmps53, List.size_toArray, List.length_cons, List.length_nil, Nat.reduceAdd, Nat.reduceSub, Array.replicate_succ, Array.replicate_zero, List.push_toArray, List.append_toArray, List.nil_append, List.cons_append]
  gi_wp2_with fail
  refine ⟨trivial, ?_⟩
  refine (callsIn_wide.2 (nodes_any f o c _)).mono ?_
  rintro e w' ⟨rfl, rfl⟩
  gi_wp2_with fail
  rw [hW0.out]
  refine wpIn_rangeFunc_ownH rfl (by decide) (gf := 82) (lb := #[.pointer (some ⟨w.heap.size + 1 + 1 + 1 + 1 + 1 + 1, 0, none⟩)]) rfl trivial (enters_of Tryz.func82 (by kernel_rfl) rfl)
    (nodes_stops _ w.heap.size W0.heap.size (w.heap.size + 1 + 1 + 1 + 1 + 1 + 1) w W0 hE (Nat.le_refl _) hE.pos (by omega) (Nat.le_refl _) hB0 f o c hv' (by omega) hX) kp_t (kp_b (by omega)) (Below.refl _ _) (fun _ => rfl)
    (fun pre W => (((Boxed W (w.heap.size + 1) 3 (.int .i64 sz) ∧ Boxed W (w.heap.size + 1 + 1) 3 (.int .i64 dp) ∧ Boxed W (w.heap.size + 1 + 1 + 1) 28 (.func (.func 91) #[] #[]) ∧ Boxed W (w.heap.size + 1 + 1 + 1 + 1) 4 (.bool false)) ∧ Boxed W (w.heap.size + 1 + 1 + 1 + 1 + 1) 3 (.int .i64 pre.length)) ∧ (Below w.heap.size w W ∧ W0.heap.size ≤ W.heap.size)) ∧ (decide (pre.length ≤ sz) && (pre.map NV.plain).all (fun x : PN => decide (x.2.1 ≤ dp) && (nodeB x.1 && coreNodeB x.1))) = true)
    (fun c' pre W => ((Boxed W (w.heap.size + 1) 3 (.int .i64 sz) ∧ Boxed W (w.heap.size + 1 + 1) 3 (.int .i64 dp) ∧ Boxed W (w.heap.size + 1 + 1 + 1) 28 (.func (.func 91) #[] #[]) ∧ Boxed W (w.heap.size + 1 + 1 + 1 + 1) 4 (.bool false)) ∧ Below w.heap.size w W) ∧ (c' = .ret ∧ (decide (pre.length ≤ sz) && (pre.map NV.plain).all (fun x : PN => decide (x.2.1 ≤ dp) && (nodeB x.1 && coreNodeB x.1))) = false))
    (OwnFrom.and (OwnFrom.and (OwnFrom.and (OwnFrom.and (Own.from (boxed_own (w.heap.size + 1) 3 (fun _ => .int .i64 sz)) _) (OwnFrom.and (Own.from (boxed_own (w.heap.size + 1 + 1) 3 (fun _ => .int .i64 dp)) _) (OwnFrom.and (Own.from (boxed_own (w.heap.size + 1 + 1 + 1) 28 (fun _ => .func (.func 91) #[] #[])) _) (Own.from (boxed_own (w.heap.size + 1 + 1 + 1 + 1) 4 (fun _ => .bool false)) _)))) (Own.from (boxed_own (w.heap.size + 1 + 1 + 1 + 1 + 1) 3 (fun pre : List (NV w.heap.size w) => .int .i64 pre.length)) _)) (OwnFrom.and (ownFrom_below (Nat.le_refl _) (by omega)) (fun _ _ _ _ hs hg _ => Nat.le_trans hs hg.size))) (ownFrom_pure _ _))
    (fun _ => OwnFrom.and (OwnFrom.and (OwnFrom.and (Own.from (boxed_own (w.heap.size + 1) 3 (fun _ => .int .i64 sz)) _) (OwnFrom.and (Own.from (boxed_own (w.heap.size + 1 + 1) 3 (fun _ => .int .i64 dp)) _) (OwnFrom.and (Own.from (boxed_own (w.heap.size + 1 + 1 + 1) 28 (fun _ => .func (.func 91) #[] #[])) _) (Own.from (boxed_own (w.heap.size + 1 + 1 + 1 + 1) 4 (fun _ => .bool false)) _)))) (ownFrom_below (Nat.le_refl _) (by omega))) (ownFrom_pure _ _))
    ⟨⟨⟨⟨k1, k2, k3, k4⟩, k5⟩, hB0, Nat.le_refl _⟩, by simp⟩
    (fun x a' W => ∃ Bx, W0.heap.size ≤ Bx ∧ Cells7 W Bx x.f x.sl x.d x.p ∧ a' = { tmps := #[.agg #[.int .i64 f.op, .string f.name, .int .i64 f.val, .int .i64 f.bound, .slice o f.args.length c], .int .i64 sz, .int .i64 dp, .func (.func 91) #[] #[], .pointer (some ⟨w.heap.size, 0, none⟩), .pointer (some ⟨w.heap.size + 1, 0, none⟩), .pointer (some ⟨w.heap.size + 1 + 1, 0, none⟩), .pointer (some ⟨w.heap.size + 1 + 1 + 1, 0, none⟩), .pointer (some ⟨w.heap.size + 1 + 1 + 1 + 1, 0, none⟩), .pointer (some ⟨w.heap.size + 1 + 1 + 1 + 1 + 1, 0, none⟩), .pointer (some ⟨Bx, 0, none⟩), .agg #[.int .i64 f.op, .string f.name, .int .i64 f.val, .int .i64 f.bound, .slice o f.args.length c], .func (.func 82) #[] #[.pointer (some ⟨w.heap.size + 1 + 1 + 1 + 1 + 1 + 1, 0, none⟩)], nval x.f x.sl x.d x.p, undef, undef, undef, undef, undef, undef, undef, undef, undef, undef, undef, undef, undef, undef, undef, undef, undef, undef], defers := [] })
    ?hax ?assign ?body ?done ?stop
  case hax =>
    rintro x a' s X Y row ⟨Bx, h1, h2, h3⟩ hg hr
    exact ⟨Bx, h1, (hg.block Bx (Array.getElem?_eq_some_iff.1 h2).1 (fun e => by obtain ⟨-, q, hq, hc⟩ := hr Bx e.symm; rw [show X.heap[Bx]? = _ from h2] at hq; cases hq; cases hc)).trans h2, h3⟩
  case assign =>
    rintro l pre x W K ⟨⟨⟨⟨k1, k2, k3, k4⟩, k5⟩, hb, hw0⟩, ha⟩ hK
    obtain ⟨sl, g, d, p, ok, hd⟩ := x
    obtain ⟨o1, c1, rfl⟩ := ok.slot
    unfold NV.encs
    rw [put_one]
    unfold nval
    have hsz := hb.size
    gi_wp2_with fail
    exact hK _ _ ((KeepsOthers.alloc _ _).from _) (Kp.of_below (below_box _ _) hsz) ⟨⟨⟨⟨k1.alloc _, k2.alloc _, k3.alloc _, k4.alloc _⟩, k5.alloc _⟩, hb.alloc hb.size _, Nat.le_trans hw0 (below_box _ _).size⟩, ha⟩ ⟨W.heap.size, hw0, heap_alloc_new W _, rfl⟩
  case body =>
    rintro l pre x a' W hl - ⟨⟨⟨⟨k1, k2, k3, k4⟩, k5⟩, hb, hw0⟩, ha⟩ ⟨Bx, hBx, h7, rfl⟩ hlt
    obtain ⟨sl, g, d, p, ok, hd⟩ := x
    rw [Bool.and_eq_true, decide_eq_true_eq] at ha
    obtain ⟨ha1, ha2⟩ := ha
    have hpl : (pre.length : Int) ≤ 1000 := by omega
    have hdd : (d : Int) ≤ 1000000 := by omega
    have c1 := k5.cell
    have c2 := k5.frozen
    obtain ⟨W1, hW1⟩ : ∃ W1, Hid (W.setCell ⟨w.heap.size + 1 + 1 + 1 + 1 + 1, 0, none⟩ (.int .i64 ((pre.length : Int) + 1)) = W1) := ⟨_, rfl⟩
    have kk1 : Boxed W1 (w.heap.size + 1) 3 (.int .i64 sz) := by rw [← hW1.out]; exact k1.other (by omega) _
    have kk2 : Boxed W1 (w.heap.size + 1 + 1) 3 (.int .i64 dp) := by rw [← hW1.out]; exact k2.other (by omega) _
    have kk3 : Boxed W1 (w.heap.size + 1 + 1 + 1) 28 (.func (.func 91) #[] #[]) := by rw [← hW1.out]; exact k3.other (by omega) _
    have kk4 : Boxed W1 (w.heap.size + 1 + 1 + 1 + 1) 4 (.bool false) := by rw [← hW1.out]; exact k4.other (by omega) _
    have kk5 : Boxed W1 (w.heap.size + 1 + 1 + 1 + 1 + 1) 3 (.int .i64 ((pre.length : Int) + 1)) := by rw [← hW1.out]; exact k5.set _
    have hb1 : Below w.heap.size w W1 := by rw [← hW1.out]; exact hb.setCell (p := ⟨w.heap.size + 1 + 1 + 1 + 1 + 1, 0, none⟩) (by show w.heap.size ≤ w.heap.size + 1 + 1 + 1 + 1 + 1; omega) _
    have hkp : Kp w.heap.size W0.heap.size W W1 := by rw [← hW1.out]; exact kp_set _ _ (by omega) (by omega)
    have hkf : KeepsFrom W0.heap.size W W1 := by rw [← hW1.out]; exact (KeepsOthers.setCell _ _ _).from _
    have h77 : Cells7 W1 Bx g sl d p := hkp.high _ _ hBx h7 rfl
    have hwsz : W0.heap.size ≤ W1.heap.size := Nat.le_trans hw0 hkf.size
    obtain ⟨q0, q1, q2, q3, q4, q5, q6⟩ := h77.cells
    have y1 := kk1.cell
    have y2 := kk2.cell
    have y3 := kk3.cell
    have y4 := kk4.cell
    have y5 := kk5.cell
    have y6 := kk4.frozen
    rw [← hW1.out] at q0 q1 q2 q3 q4 q5 y1 y2 y3 y4 y5 y6
    have hfin : ∀ (W2 : World), Below W1.heap.size W1 W2 → Boxed W2 (w.heap.size + 1 + 1 + 1 + 1) 4 (.bool false) ∧ ((Boxed (W2.setCell ⟨w.heap.size + 1 + 1 + 1 + 1, 0, none⟩ (.bool false)) (w.heap.size + 1) 3 (.int .i64 sz) ∧ Boxed (W2.setCell ⟨w.heap.size + 1 + 1 + 1 + 1, 0, none⟩ (.bool false)) (w.heap.size + 1 + 1) 3 (.int .i64 dp) ∧ Boxed (W2.setCell ⟨w.heap.size + 1 + 1 + 1 + 1, 0, none⟩ (.bool false)) (w.heap.size + 1 + 1 + 1) 28 (.func (.func 91) #[] #[]) ∧ Boxed (W2.setCell ⟨w.heap.size + 1 + 1 + 1 + 1, 0, none⟩ (.bool false)) (w.heap.size + 1 + 1 + 1 + 1) 4 (.bool false)) ∧ Below w.heap.size w (W2.setCell ⟨w.heap.size + 1 + 1 + 1 + 1, 0, none⟩ (.bool false))) ∧ KeepsFrom W0.heap.size W (W2.setCell ⟨w.heap.size + 1 + 1 + 1 + 1, 0, none⟩ (.bool false)) := fun W2 h => by
      have j1 : Boxed W2 (w.heap.size + 1) 3 (.int .i64 sz) := (h.block _ kk1.lt).trans kk1
      have j2 : Boxed W2 (w.heap.size + 1 + 1) 3 (.int .i64 dp) := (h.block _ kk2.lt).trans kk2
      have j3 : Boxed W2 (w.heap.size + 1 + 1 + 1) 28 (.func (.func 91) #[] #[]) := (h.block _ kk3.lt).trans kk3
      have j4 : Boxed W2 (w.heap.size + 1 + 1 + 1 + 1) 4 (.bool false) := (h.block _ kk4.lt).trans kk4
      exact ⟨j4, ⟨⟨j1.other (by omega) _, j2.other (by omega) _, j3.other (by omega) _, j4.set _⟩, (hb1.trans (h.mono hb1.size)).setCell (p := ⟨w.heap.size + 1 + 1 + 1 + 1, 0, none⟩) (by show w.heap.size ≤ w.heap.size + 1 + 1 + 1 + 1; omega) _⟩, hkf.trans (((KeepsOthers.of_below' h).from _).trans ((KeepsOthers.setCell _ _ _).from _))⟩
    by_cases hA : sz < pre.length + 1
    · have hF : Hid ((decide ((pre ++ [(⟨sl, g, d, p, ok, hd⟩ : NV w.heap.size w)]).length ≤ sz) && ((pre ++ [(⟨sl, g, d, p, ok, hd⟩ : NV w.heap.size w)]).map NV.plain).all (fun x : PN => decide (x.2.1 ≤ dp) && (nodeB x.1 && coreNodeB x.1))) = false) := by
        unfold Hid; rw [decide_eq_false (by rw [List.length_append]; simp; omega)]; rfl
      have hA2 : (sz : Int) < (pre.length : Int) + 1 := by omega
      gi_wp2_with fail
      refine ⟨fun _ h => (by cases h), ?_⟩
      gi_wp2_with fail
      rw [hW1.out]
      obtain ⟨-, f2, f3⟩ := hfin W1 (Below.refl _ _)
      exact ⟨f3, f2, rfl, hF.out⟩
    · have hA2 : (pre.length : Int) + 1 ≤ (sz : Int) := by omega
      by_cases hD : dp < d
      · have hF : Hid ((decide ((pre ++ [(⟨sl, g, d, p, ok, hd⟩ : NV w.heap.size w)]).length ≤ sz) && ((pre ++ [(⟨sl, g, d, p, ok, hd⟩ : NV w.heap.size w)]).map NV.plain).all (fun x : PN => decide (x.2.1 ≤ dp) && (nodeB x.1 && coreNodeB x.1))) = false) := by
          unfold Hid; rw [List.map_append, List.all_append]; simp [NV.plain]; intros; omega
        have hD2 : (dp : Int) < (d : Int) := by omega
        gi_wp2_with fail
        refine ⟨fun _ h => (by cases h), ?_⟩
        gi_wp2_with fail
        rw [hW1.out]
        obtain ⟨-, f2, f3⟩ := hfin W1 (Below.refl _ _)
        exact ⟨f3, f2, rfl, hF.out⟩
      · have hD2 : (d : Int) ≤ (dp : Int) := by omega
        cases hq : (nodeB g && coreNodeB g)
        · have hF : Hid ((decide ((pre ++ [(⟨sl, g, d, p, ok, hd⟩ : NV w.heap.size w)]).length ≤ sz) && ((pre ++ [(⟨sl, g, d, p, ok, hd⟩ : NV w.heap.size w)]).map NV.plain).all (fun x : PN => decide (x.2.1 ≤ dp) && (nodeB x.1 && coreNodeB x.1))) = false) := by
            unfold Hid; rw [List.map_append, List.all_append]; simp only [List.map_cons, List.map_nil, List.all_cons, List.all_nil, NV.plain, hq, Bool.and_false, Bool.false_and]
          gi_wp2_with fail
          refine ⟨trivial, ?_⟩
          rw [hW1.out]
          refine (CallsIn.inRound l (callsIn_wide.2 (kernelNode_any g w.heap.size _ _ (ok.kept hb1 (Nat.le_refl _)) hb1.size (hE.below hb1)))).mono ?_
          rintro e W2 ⟨rfl, hb2⟩
          rw [hq]
          obtain ⟨f1, f2, f3⟩ := hfin W2 hb2
          have z1 := f1.cell
          have z2 := f1.frozen
          clear q0 q1 q2 q3 q4 q5 y1 y2 y3 y4 y5 y6
          gi_wp2_with fail
          exact ⟨f3, f2, rfl, hF.out⟩
        · have hF : Hid ((decide ((pre ++ [(⟨sl, g, d, p, ok, hd⟩ : NV w.heap.size w)]).length ≤ sz) && ((pre ++ [(⟨sl, g, d, p, ok, hd⟩ : NV w.heap.size w)]).map NV.plain).all (fun x : PN => decide (x.2.1 ≤ dp) && (nodeB x.1 && coreNodeB x.1))) = true) := by
            unfold Hid
            rw [List.map_append, List.all_append, ha2, decide_eq_true (by rw [List.length_append]; simp; omega)]
            simp only [List.map_cons, List.map_nil, List.all_cons, List.all_nil, NV.plain, hq, Bool.and_true, Bool.true_and, decide_eq_true_eq]
            omega
          gi_wp2_with fail
          refine ⟨trivial, ?_⟩
          rw [hW1.out]
          refine (CallsIn.inRound l (callsIn_wide.2 (kernelNode_any g w.heap.size _ _ (ok.kept hb1 (Nat.le_refl _)) hb1.size (hE.below hb1)))).mono ?_
          rintro e W2 ⟨rfl, hb2⟩
          rw [hq]
          clear q0 q1 q2 q3 q4 q5 y1 y2 y3 y4 y5 y6
          gi_wp2_with fail
          refine ⟨hkf.trans ((KeepsOthers.of_below' hb2).from _), hkp.trans (Kp.of_below hb2 hb1.size), ⟨⟨⟨(hb2.block _ kk1.lt).trans kk1, (hb2.block _ kk2.lt).trans kk2, (hb2.block _ kk3.lt).trans kk3, (hb2.block _ kk4.lt).trans kk4⟩, ?_⟩, hb1.trans (hb2.mono hb1.size), Nat.le_trans hwsz hb2.size⟩, hF.out⟩
          rw [List.length_append]
          exact (hb2.block _ kk5.lt).trans kk5
  case done =>
    rintro D xs W hD hxs ⟨⟨⟨⟨-, -, -, k4⟩, -⟩, hb, -⟩, ha⟩ hK
    have c1 := k4.cell
    have c2 := k4.frozen
    have hK1 := Boxed.keep_deferred (v := .bool true) hK (show w.heap.size + 1 + 1 + 1 + 1 < D by omega) 0
    have hc1 := (k4.set (.bool true)).cell
    have hRH := hidi (cell_kept hc1 (grownBy_putObj' _ D (.deferred none)) (fun r e => by cases e; exact ⟨_, hK1, rfl⟩))
    have hEq : Hid ((decide (f.nodes ≤ sz) && (nodesP f 1 false).all (fun x : PN => decide (x.2.1 ≤ dp) && (nodeB x.1 && coreNodeB x.1))) = true) := by
      unfold Hid; rw [← nodesP_length f 1 false, ← hxs, List.length_map]; exact ha
    have hBel := (hb.setCell (p := ⟨w.heap.size + 1 + 1 + 1 + 1, 0, none⟩) (by show w.heap.size ≤ w.heap.size + 1 + 1 + 1 + 1; omega) (.bool true)).trans (belowK_b (w := w) (Nat.le_refl _) _ D _ (.deferred none) (by omega) hK1 rfl rfl)
    clear hc1
    gi_wp2
    refine ⟨by simp, .inl ⟨_, _, rfl, run_takeDeferred hK1, ?_⟩⟩
    exact ⟨_, results_bool rfl _ _ (w.heap.size + 1 + 1 + 1 + 1) true rfl hRH.out, by rw [hEq.out], hBel⟩
  case stop =>
    rintro D c' pre W hD hpre ⟨⟨⟨-, -, -, k4⟩, hb⟩, rfl, ha⟩ hK
    have hc1 := k4.cell
    have hRH := hidi (cell_kept hc1 (grownBy_putObj' _ D (.deferred none)) (fun r e => by cases e; exact ⟨_, hK, rfl⟩))
    have hEq : Hid ((decide (f.nodes ≤ sz) && (nodesP f 1 false).all (fun x : PN => decide (x.2.1 ≤ dp) && (nodeB x.1 && coreNodeB x.1))) = false) := by
      unfold Hid
      obtain ⟨t, ht⟩ := hpre
      rw [← nodesP_length f 1 false, ← ht, List.length_append, List.length_map, List.all_append]
      rcases Bool.and_eq_false_iff.1 ha with h | h
      · rw [decide_eq_false (by have := of_decide_eq_false h; omega)]; rfl
      · rw [h]; simp
    have hBel := hb.trans (belowK_b (w := w) (Nat.le_refl _) _ D _ (.deferred none) (by omega) hK rfl rfl)
    gi_wp2
    refine ⟨by simp, .inl ⟨_, _, rfl, run_takeDeferred hK, ?_⟩⟩
    exact ⟨_, results_bool rfl _ _ (w.heap.size + 1 + 1 + 1 + 1) false rfl hRH.out, by rw [hEq.out], hBel⟩

end Go.Proofs.YtbnnjbfbifihaaaGreatDoor

/-
  Contracts of package formula's Valid, loose, IsKernel.
-/
namespace Go.Proofs.YtbnnjbfbifihaaaGreatDoor
open Go.RowKit

theorem all_and2 {α : Type} (p q : α → Bool) (l : List α) : l.all (fun g => p g && q g) = (l.all p && l.all q) := by
  induction l with
  | nil => rfl
  | cons x l ih => simp only [List.all_cons, ih]; cases p x <;> cases q x <;> cases l.all p <;> rfl
theorem depthL_le (l : List Fm) (n : Nat) : Fm.depthL l ≤ n ↔ ∀ g ∈ l, g.depth ≤ n := by
  induction l with
  | nil => rw [Fm.depthL_nil]; simp
  | cons x l ih => rw [Fm.depthL_cons, Nat.max_le, ih]; simp
theorem nodes_depth (dp : Nat) (f : Fm) : ∀ d p, (nodesP f d p).all (fun x => decide (x.2.1 ≤ dp)) = decide (d + f.depth ≤ dp + 1) := by
  induction f using Fm.ind with
  | h f ih =>
    intro d p
    rw [nodesP_eq, List.all_cons, nodesPL_all, Bool.eq_iff_iff, Bool.and_eq_true, List.all_eq_true, decide_eq_true_eq, decide_eq_true_eq, Fm.depth_eq]
    dsimp only
    constructor
    · rintro ⟨h1, h2⟩
      by_cases h0 : f.args = []
      · rw [h0, Fm.depthL_nil]; omega
      · have h3 : Fm.depthL f.args ≤ dp + 1 - (d + 1) := (depthL_le _ _).2 fun g hg => by
          have := h2 g hg
          rw [ih g hg, decide_eq_true_eq] at this
          omega
        obtain ⟨g, hg⟩ := List.exists_mem_of_ne_nil _ h0
        have h4 := h2 g hg
        rw [ih g hg, decide_eq_true_eq] at h4
        omega
    · intro h
      refine ⟨by omega, fun g hg => ?_⟩
      rw [ih g hg, decide_eq_true_eq]
      have := (depthL_le f.args (Fm.depthL f.args)).1 (Nat.le_refl _) g hg
      omega
theorem nodes_limit (dp : Nat) (q : Fm → Bool) (f : Fm) : (nodesP f 1 false).all (fun x : PN => decide (x.2.1 ≤ dp) && q x.1) = (decide (f.depth ≤ dp) && f.all q) := by
  rw [all_and2 (fun x : PN => decide (x.2.1 ≤ dp)) (fun x => q x.1), nodes_depth, nodesP_all]
  congr 1
  exact decide_eq_decide.2 (by omega)
theorem valid_nodes (f : Fm) : (decide (f.nodes ≤ 60) && (nodesP f 1 false).all (fun x : PN => decide (x.2.1 ≤ 20) && nodeB x.1)) = fvalidB f := by
  rw [nodes_limit, ← Bool.and_assoc]; rfl
theorem loose_nodes (f : Fm) : ((decide (f.nodes ≤ 400) && (nodesP f 1 false).all (fun x : PN => decide (x.2.1 ≤ 60) && (nodeB x.1 && coreNodeB x.1))) && layB f) = looseB f := by
  rw [nodes_limit 60 (fun x => nodeB x && coreNodeB x), Fm.all_and]
  unfold looseB nodesB coreB
  cases decide (f.nodes ≤ 400) <;> cases decide (f.depth ≤ 60) <;> cases f.all nodeB <;> cases f.all coreNodeB <;> rfl

set_option maxRecDepth 100000 in
set_option maxHeartbeats 2000000 in
theorem fvalid_any (f : Fm) (B : Nat) (v : Value) (w : World) (hv : FAt B w v f) (hBw : B ≤ w.heap.size) (hE : Env w) (hn : f.nodes ≤ 999999) :
    Calls Tryz.prog 15 #[v] w fun e w' => e = .returned (.bool (fvalidB f)) ∧ Below w.heap.size w w' := by
  have hv' := hv.mono hBw
  obtain ⟨o, c, rfl, -, -⟩ := hv.open
  obtain ⟨W0, hW0, hB0, hc, hlt⟩ := fm_open w (.int .i64 f.op) (.string f.name) (.int .i64 f.val) (.int .i64 f.bound) (.slice o f.args.length c)
  have hB : Below W0.heap.size W0 W0 := Below.refl _ _
  obtain ⟨d0, d1, d2, d3, d4⟩ := hc.out
  rw [Nat.zero_add] at d1 d2 d3 d4
  have hP := hidi (valid_nodes f)
  go_enter Tryz.func15, Tryz.ntmps15
  go_wp2_with fail
  rw [hW0.out]
  go_wp2_with (first | (go_at_call 53; refine (limited_proper f w.heap.size _ 60 20 _ (hv'.kept (hB0.trans (hB.mono hB0.size)) (Nat.le_refl _)) (Nat.le_trans hB0.size hB.size) (hE.below (hB0.trans (hB.mono hB0.size))) hn (by decide)).mono ?_; rintro e w1 ⟨rfl, hb1⟩; rw [hP.out]; have hB := hB.trans (hb1.mono hB.size); clear hb1; clear d0 d1 d2 d3 d4; obtain ⟨d0, d1, d2, d3, d4⟩ := hc.out.later hB hlt; rw [Nat.zero_add] at d1 d2 d3 d4))
  go_ret
  exact ⟨ret_bool (by rfl), hB0.trans (hB.mono hB0.size)⟩

set_option maxRecDepth 100000 in
set_option maxHeartbeats 2000000 in
theorem loose_any (f : Fm) (B : Nat) (v : Value) (w : World) (hv : FAt B w v f) (hBw : B ≤ w.heap.size) (hE : Env w) (hn : f.nodes ≤ 999999) :
    Calls Tryz.prog 65 #[v] w fun e w' => e = .returned (.bool (looseB f)) ∧ Below w.heap.size w w' := by
  have hv' := hv.mono hBw
  obtain ⟨o, c, rfl, -, -⟩ := hv.open
  obtain ⟨W0, hW0, hB0, hc, hlt⟩ := fm_open w (.int .i64 f.op) (.string f.name) (.int .i64 f.val) (.int .i64 f.bound) (.slice o f.args.length c)
  have hB : Below W0.heap.size W0 W0 := Below.refl _ _
  obtain ⟨d0, d1, d2, d3, d4⟩ := hc.out
  rw [Nat.zero_add] at d1 d2 d3 d4
  have hP := hidi (loose_nodes f)
  cases q1 : (decide (f.nodes ≤ 400) && (nodesP f 1 false).all (fun x : PN => decide (x.2.1 ≤ 60) && (nodeB x.1 && coreNodeB x.1)))
  · go_enter Tryz.func65, Tryz.ntmps65
    go_wp2_with fail
    rw [hW0.out]
    go_wp2_with (first | (go_at_call 53; refine (limited_kernel f w.heap.size _ 400 60 _ (hv'.kept (hB0.trans (hB.mono hB0.size)) (Nat.le_refl _)) (Nat.le_trans hB0.size hB.size) (hE.below (hB0.trans (hB.mono hB0.size))) hn (by decide)).mono ?_; rintro e w1 ⟨rfl, hb1⟩; rw [q1]; have hB := hB.trans (hb1.mono hB.size); clear hb1; clear d0 d1 d2 d3 d4; obtain ⟨d0, d1, d2, d3, d4⟩ := hc.out.later hB hlt; rw [Nat.zero_add] at d1 d2 d3 d4))
    go_ret
    exact ⟨ret_bool (by rw [← hP.out, q1]; rfl), hB0.trans (hB.mono hB0.size)⟩
  · cases q2 : layB f
    · go_enter Tryz.func65, Tryz.ntmps65
      go_wp2_with fail
      rw [hW0.out]
      go_wp2_with (first | (go_at_call 53; refine (limited_kernel f w.heap.size _ 400 60 _ (hv'.kept (hB0.trans (hB.mono hB0.size)) (Nat.le_refl _)) (Nat.le_trans hB0.size hB.size) (hE.below (hB0.trans (hB.mono hB0.size))) hn (by decide)).mono ?_; rintro e w1 ⟨rfl, hb1⟩; rw [q1]; have hB := hB.trans (hb1.mono hB.size); clear hb1; clear d0 d1 d2 d3 d4; obtain ⟨d0, d1, d2, d3, d4⟩ := hc.out.later hB hlt; rw [Nat.zero_add] at d1 d2 d3 d4) | (go_at_call 23; refine (layered_any f w.heap.size _ _ (hv'.kept (hB0.trans (hB.mono hB0.size)) (Nat.le_refl _)) (Nat.le_trans hB0.size hB.size) (hE.below (hB0.trans (hB.mono hB0.size))) (by have := f.depth_le_nodes; omega)).mono ?_; rintro e w1 ⟨rfl, hb1⟩; rw [q2]; have hB := hB.trans (hb1.mono hB.size); clear hb1; clear d0 d1 d2 d3 d4; obtain ⟨d0, d1, d2, d3, d4⟩ := hc.out.later hB hlt; rw [Nat.zero_add] at d1 d2 d3 d4))
      go_ret
      exact ⟨ret_bool (by rw [← hP.out, q1, q2]; rfl), hB0.trans (hB.mono hB0.size)⟩
    · go_enter Tryz.func65, Tryz.ntmps65
      go_wp2_with fail
      rw [hW0.out]
      go_wp2_with (first | (go_at_call 53; refine (limited_kernel f w.heap.size _ 400 60 _ (hv'.kept (hB0.trans (hB.mono hB0.size)) (Nat.le_refl _)) (Nat.le_trans hB0.size hB.size) (hE.below (hB0.trans (hB.mono hB0.size))) hn (by decide)).mono ?_; rintro e w1 ⟨rfl, hb1⟩; rw [q1]; have hB := hB.trans (hb1.mono hB.size); clear hb1; clear d0 d1 d2 d3 d4; obtain ⟨d0, d1, d2, d3, d4⟩ := hc.out.later hB hlt; rw [Nat.zero_add] at d1 d2 d3 d4) | (go_at_call 23; refine (layered_any f w.heap.size _ _ (hv'.kept (hB0.trans (hB.mono hB0.size)) (Nat.le_refl _)) (Nat.le_trans hB0.size hB.size) (hE.below (hB0.trans (hB.mono hB0.size))) (by have := f.depth_le_nodes; omega)).mono ?_; rintro e w1 ⟨rfl, hb1⟩; rw [q2]; have hB := hB.trans (hb1.mono hB.size); clear hb1; clear d0 d1 d2 d3 d4; obtain ⟨d0, d1, d2, d3, d4⟩ := hc.out.later hB hlt; rw [Nat.zero_add] at d1 d2 d3 d4))
      go_ret
      exact ⟨ret_bool (by rw [← hP.out, q1, q2]; rfl), hB0.trans (hB.mono hB0.size)⟩

set_option maxRecDepth 100000 in
set_option maxHeartbeats 2000000 in
theorem iskernel_any (f : Fm) (B : Nat) (v : Value) (w : World) (hv : FAt B w v f) (hBw : B ≤ w.heap.size) (hE : Env w) (hn : f.nodes ≤ 999999) :
    Calls Tryz.prog 28 #[v] w fun e w' => e = .returned (.bool (kernelB f)) ∧ Below w.heap.size w w' := by
  have hv' := hv.mono hBw
  obtain ⟨o, c, rfl, -, -⟩ := hv.open
  obtain ⟨W0, hW0, hB0, hc, hlt⟩ := fm_open w (.int .i64 f.op) (.string f.name) (.int .i64 f.val) (.int .i64 f.bound) (.slice o f.args.length c)
  have hB : Below W0.heap.size W0 W0 := Below.refl _ _
  obtain ⟨d0, d1, d2, d3, d4⟩ := hc.out
  rw [Nat.zero_add] at d1 d2 d3 d4
  cases q1 : fvalidB f
  · go_enter Tryz.func28, Tryz.ntmps28
    go_wp2_with fail
    rw [hW0.out]
    go_wp2_with (first | (go_at_call 15; refine (fvalid_any f w.heap.size _ _ (hv'.kept (hB0.trans (hB.mono hB0.size)) (Nat.le_refl _)) (Nat.le_trans hB0.size hB.size) (hE.below (hB0.trans (hB.mono hB0.size))) hn).mono ?_; rintro e w1 ⟨rfl, hb1⟩; rw [q1]; have hB := hB.trans (hb1.mono hB.size); clear hb1; clear d0 d1 d2 d3 d4; obtain ⟨d0, d1, d2, d3, d4⟩ := hc.out.later hB hlt; rw [Nat.zero_add] at d1 d2 d3 d4))
    go_ret
    exact ⟨ret_bool (by unfold kernelB; rw [q1]; simp), hB0.trans (hB.mono hB0.size)⟩
  · cases q2 : looseB f
    · go_enter Tryz.func28, Tryz.ntmps28
      go_wp2_with fail
      rw [hW0.out]
      go_wp2_with (first | (go_at_call 15; refine (fvalid_any f w.heap.size _ _ (hv'.kept (hB0.trans (hB.mono hB0.size)) (Nat.le_refl _)) (Nat.le_trans hB0.size hB.size) (hE.below (hB0.trans (hB.mono hB0.size))) hn).mono ?_; rintro e w1 ⟨rfl, hb1⟩; rw [q1]; have hB := hB.trans (hb1.mono hB.size); clear hb1; clear d0 d1 d2 d3 d4; obtain ⟨d0, d1, d2, d3, d4⟩ := hc.out.later hB hlt; rw [Nat.zero_add] at d1 d2 d3 d4) | (go_at_call 65; refine (loose_any f w.heap.size _ _ (hv'.kept (hB0.trans (hB.mono hB0.size)) (Nat.le_refl _)) (Nat.le_trans hB0.size hB.size) (hE.below (hB0.trans (hB.mono hB0.size))) hn).mono ?_; rintro e w1 ⟨rfl, hb1⟩; rw [q2]; have hB := hB.trans (hb1.mono hB.size); clear hb1; clear d0 d1 d2 d3 d4; obtain ⟨d0, d1, d2, d3, d4⟩ := hc.out.later hB hlt; rw [Nat.zero_add] at d1 d2 d3 d4))
      go_ret
      exact ⟨ret_bool (by unfold kernelB; rw [q1, q2]; rfl), hB0.trans (hB.mono hB0.size)⟩
    · go_enter Tryz.func28, Tryz.ntmps28
      go_wp2_with fail
      rw [hW0.out]
      go_wp2_with (first | (go_at_call 15; refine (fvalid_any f w.heap.size _ _ (hv'.kept (hB0.trans (hB.mono hB0.size)) (Nat.le_refl _)) (Nat.le_trans hB0.size hB.size) (hE.below (hB0.trans (hB.mono hB0.size))) hn).mono ?_; rintro e w1 ⟨rfl, hb1⟩; rw [q1]; have hB := hB.trans (hb1.mono hB.size); clear hb1; clear d0 d1 d2 d3 d4; obtain ⟨d0, d1, d2, d3, d4⟩ := hc.out.later hB hlt; rw [Nat.zero_add] at d1 d2 d3 d4) | (go_at_call 65; refine (loose_any f w.heap.size _ _ (hv'.kept (hB0.trans (hB.mono hB0.size)) (Nat.le_refl _)) (Nat.le_trans hB0.size hB.size) (hE.below (hB0.trans (hB.mono hB0.size))) hn).mono ?_; rintro e w1 ⟨rfl, hb1⟩; rw [q2]; have hB := hB.trans (hb1.mono hB.size); clear hb1; clear d0 d1 d2 d3 d4; obtain ⟨d0, d1, d2, d3, d4⟩ := hc.out.later hB hlt; rw [Nat.zero_add] at d1 d2 d3 d4))
      go_ret
      exact ⟨ret_bool (by unfold kernelB; rw [q1, q2]; rfl), hB0.trans (hB.mono hB0.size)⟩

end Go.Proofs.YtbnnjbfbifihaaaGreatDoor

/-
  Contracts of package formula's builders compound and opposite.
-/
namespace Go.Proofs.YtbnnjbfbifihaaaGreatDoor
open Go.RowKit

set_option maxHeartbeats 1000000 in
theorem compound_any (P : Nat → Prop) (op val : Int) (v : Value) (l : List Fm) (w : World) (hv : FArgsP P w v l) (hP : ∀ b, P b → b < w.heap.size) (ho : I64 op) (hval : I64 val) :
    Calls Tryz.prog 126 #[.int .i64 op, .int .i64 val, v] w fun e w' => ∃ r, e = .returned r ∧ FAtP (NewP P w w') w' r (.mk op ⟨#[]⟩ val 0 l) ∧ Below w.heap.size w w' := by
  obtain ⟨o, c, rfl⟩ := hv.shape
  go_enter Tryz.func126, Tryz.ntmps126
  go_wp2
  refine bodyPost_ret (results_cell_row rfl _ _ (w.heap.size) 24 _ (0, 0) _ rfl (heap_alloc_new w _) Tryz.underlying24 rfl fmSize) rfl ?_
  exact ⟨_, rfl, .mk ho size_0 hval i64_0 ((hv.kept (below_box _ _) hP).mono fun _ h => .inl h), below_box _ _⟩

/-- the negation's operator, without arguments -/
def oppF (f : Fm) : Fm := .mk (fDual f.op.toNat) ⟨#[]⟩ (if fTense f.op.toNat = 1 then 1 - f.val else 0) 0 []
theorem dual_i64 {k : Nat} (hk : k < 20) : I64 (fDual k) := by
  have h : ∀ k, k < 20 → -1000 ≤ fDual k ∧ fDual k ≤ 1000 := by decide
  exact i64_of (h k hk).1 (h k hk).2

set_option maxRecDepth 100000 in
set_option maxHeartbeats 2000000 in
theorem opposite_any (P : Nat → Prop) (v : Value) (f : Fm) (w : World) (hE : Env w) (hv : FAtP P w v f) (hk : knownB f.op = true) (hval : 0 ≤ f.val ∧ f.val ≤ 3) :
    Calls Tryz.prog 94 #[v] w fun e w' => ∃ r, e = .returned r ∧ FAtP (NewP P w w') w' r (oppF f) ∧ Below w.heap.size w w' := by
  obtain ⟨o, c, rfl, -, -⟩ := hv.open
  obtain ⟨h1, h2⟩ := (knownB_iff _).1 hk
  obtain ⟨op, hop⟩ : ∃ op, Hid (f.op = op) := ⟨_, rfl⟩
  have hO : Hid (oppF f = .mk (fDual op.toNat) ⟨#[]⟩ (if fTense op.toNat = 1 then 1 - f.val else 0) 0 []) := by unfold Hid oppF; rw [hop.out]
  rw [hop.out] at h1 h2 ⊢
  rw [hO.out]
  obtain ⟨k, rfl⟩ := Int.eq_ofNat_of_zero_le (show 0 ≤ op by omega)
  rw [Int.toNat_natCast]
  have hk2 : k < 20 := by omega
  have hB := below_box w (.cells #[.int .i64 (k : Int), .string f.name, .int .i64 f.val, .int .i64 f.bound, .slice o f.args.length c] 24)
  have hB2 := hB.alloc (by simp) (.cells #[.int .i64 0, .string ⟨#[]⟩, .int .i64 0, .int .i64 0, .slice none 0 0] 24)
  obtain ⟨-, -, -, -, -, r5, r6⟩ := (hE.below hB2).row k hk2
  have g1 : (0 : Int) ≤ (k : Int) := by omega
  have g2 : (k : Int) < 20 := by omega
  obtain ⟨p1, p2⟩ := hval
  have hdu := dual_i64 hk2
  generalize fDual k = du at *
  generalize hte : fTense k = te at *
  generalize f.val = z at *
  by_cases ht : te = 1
  · subst ht
    rw [if_pos rfl]
    go_enter Tryz.func94, Tryz.ntmps94
    go_wp2
    have hq := one_open w (.cells #[.int .i64 (k : Int), .string f.name, .int .i64 z, .int .i64 f.bound, .slice o f.args.length c] 24) (.cells #[.int .i64 du, .string ⟨#[]⟩, .int .i64 (1 - z), .int .i64 0, .slice none 0 0] 24) (.cells #[.int .i64 du, .string ⟨#[]⟩, .int .i64 (1 - z), .int .i64 0, .slice none 0 0] 24)
    obtain ⟨W0, hW0, hB0, hs, hz, -⟩ := hq
    rw [hW0.out]
    refine bodyPost_ret (results_cell_row rfl _ _ (w.heap.size + 1) 24 _ (0, 0) _ rfl hz.out Tryz.underlying24 rfl fmSize) rfl ?_
    exact ⟨_, rfl, .mk hdu size_0 (i64_of (by omega) (by omega)) i64_0 (.nil _ _), hB0⟩
  · rw [if_neg ht]
    have ht2 : (te == 1) = false := by simpa using ht
    go_enter Tryz.func94, Tryz.ntmps94
    go_wp2
    have hq := one_open w (.cells #[.int .i64 (k : Int), .string f.name, .int .i64 z, .int .i64 f.bound, .slice o f.args.length c] 24) (.cells #[.int .i64 du, .string ⟨#[]⟩, .int .i64 0, .int .i64 0, .slice none 0 0] 24) (.cells #[.int .i64 du, .string ⟨#[]⟩, .int .i64 0, .int .i64 0, .slice none 0 0] 24)
    obtain ⟨W0, hW0, hB0, hs, hz, -⟩ := hq
    rw [hW0.out]
    refine bodyPost_ret (results_cell_row rfl _ _ (w.heap.size + 1) 24 _ (0, 0) _ rfl hz.out Tryz.underlying24 rfl fmSize) rfl ?_
    exact ⟨_, rfl, .mk hdu size_0 (i64_of (by omega) (by omega)) i64_0 (.nil _ _), hB0⟩

end Go.Proofs.YtbnnjbfbifihaaaGreatDoor
