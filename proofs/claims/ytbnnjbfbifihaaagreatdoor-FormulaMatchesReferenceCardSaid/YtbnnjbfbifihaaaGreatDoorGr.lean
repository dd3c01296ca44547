/-
  Contracts that the formula laws stand on, part Gr.
-/
import Derived.Test.YtbnnjbfbifihaaaGreatDoorRows
import Derived.Test.YtbnnjbfbifihaaaGreatDoorFmA
import Derived.ProofKit
import Derived.Deep.Slices
import Derived.Deep.Fields
import Derived.OpenShut
import Derived.LaidMore
import Derived.Lay
import Derived.Stop.Joined
import Derived.RangeFuncOwn
import Derived.Test.YtbnnjbfbifihaaaGreatDoorCards
import Derived.Test.YtbnnjbfbifihaaaGreatDoorTie
import Derived.Test.YtbnnjbfbifihaaaGreatDoorGb
import Derived.Test.YtbnnjbfbifihaaaGreatDoorGc

/-
  What a formula law's arguments read as, opened to cells: formulas, lists of formulas; the laid table.
-/
namespace Go.Proofs.YtbnnjbfbifihaaaGreatDoor
open Go.ChangeShapes Go.WideShapes Go.ChangeAt Go.RowKit Go.Deep

theorem Tryz.own : ownKnob Tryz.prog.godebug = none := by kernel_rfl
theorem Tryz.laidOut : laidOutB Tryz.prog = true := by kernel_rfl
theorem Tryz.fmCells : Tryz.prog.cellsOf 24 = 5 := by kernel_rfl
theorem Tryz.formCells : Tryz.prog.cellsOf 83 = 7 := by kernel_rfl
theorem Tryz.fmOne : ∀ fs, Tryz.prog.underlying 24 = some (.struct fs) → oneCellFields Tryz.prog fs = true := by
  intro fs h
  rw [Tryz.underlying24] at h
  cases h
  kernel_rfl
theorem Tryz.formOne : ∀ fs, Tryz.prog.underlying 83 = some (.struct fs) → oneCellFields Tryz.prog fs = true := by
  intro fs h
  rw [Tryz.underlying83] at h
  cases h
  kernel_rfl

section
variable {H : Type} {enc : TypeId × Value → H} {w : World}

theorem spot_none {a : Addr} {v : Value} (h : w.cell? a = some v) : a.spot = none := by
  unfold World.cell? at h
  split at h
  · split at h
    · cases h
    · rename_i hs
      simpa using hs
  · cases h
theorem block_lt {a : Addr} {v : Value} (h : w.cell? a = some v) : a.block < w.heap.size := by
  obtain ⟨o, ho, _⟩ := cells_of_cell h
  exact (Array.getElem?_eq_some_iff.1 ho).1
theorem add_zero (a : Addr) : a.add 0 = a := rfl
theorem add_none {a : Addr} (ha : a.spot = none) (n : Nat) : a.add n = ⟨a.block, a.off + n, none⟩ := by
  unfold Addr.add
  split
  · rename_i hn; subst hn; cases a; simp_all
  · rfl
theorem wf_i64 {z : Int} (h : (Lit.int .i64 z).wf = true) : I64 z := by
  have h1 : IntKind.i64.min = -9223372036854775808 := rfl
  have h2 : IntKind.i64.max = 9223372036854775807 := rfl
  simp only [Lit.wf, Bool.and_eq_true, decide_eq_true_eq] at h
  unfold I64
  omega

set_option maxRecDepth 100000 in
/-- five values that read as a formula, its arguments read by fewer steps -/
theorem fm_cells {fuel : Nat} {cs : List Value} {x : DataW H × List MemPlace}
    (ih : ∀ m, m < fuel → ∀ {u : Value} {x : DataW H × List MemPlace}, DataW.trod enc Tryz.prog w 0 (fun _ => true) true m 22 [u] = some x → ∃ l : List Fm, FArgs w.heap.size w u l)
    (hf : DataW.trod enc Tryz.prog w 0 (fun _ => true) true fuel 24 cs = some x) :
    ∃ (f : Fm) (sl : Value), cs = [.int .i64 f.op, .string f.name, .int .i64 f.val, .int .i64 f.bound, sl] ∧ Fits f ∧ FArgs w.heap.size w sl f.args := by
  obtain ⟨xs, n', hfu, _, hl5, hxl, hg⟩ := DataW.trod_struct Tryz.underlying24 hf
  rw [Tryz.fmCells] at hl5
  match cs, hl5 with
  | [u0, u1, u2, u3, u4], _ =>
    have g0 := hg 0 _ rfl
    have g1 := hg 1 _ rfl
    have g2 := hg 2 _ rfl
    have g3 := hg 3 _ rfl
    have g4 := hg 4 _ rfl
    obtain ⟨o0, k0⟩ := hone_of (Tryz.fmOne _ Tryz.underlying24) 0 _ rfl
    obtain ⟨o1, k1⟩ := hone_of (Tryz.fmOne _ Tryz.underlying24) 1 _ rfl
    obtain ⟨o2, k2⟩ := hone_of (Tryz.fmOne _ Tryz.underlying24) 2 _ rfl
    obtain ⟨o3, k3⟩ := hone_of (Tryz.fmOne _ Tryz.underlying24) 3 _ rfl
    obtain ⟨o4, k4⟩ := hone_of (Tryz.fmOne _ Tryz.underlying24) 4 _ rfl
    rw [o0, k0] at g0
    rw [o1, k1] at g1
    rw [o2, k2] at g2
    rw [o3, k3] at g3
    rw [o4, k4] at g4
    have hx : ∀ i, i < 5 → ∃ y, xs[i]? = some y := fun i hi => ⟨_, List.getElem?_eq_getElem (Nat.lt_of_lt_of_eq hi hxl.symm)⟩
    obtain ⟨x0, e0⟩ := hx 0 (by omega)
    obtain ⟨x1, e1⟩ := hx 1 (by omega)
    obtain ⟨x2, e2⟩ := hx 2 (by omega)
    obtain ⟨x3, e3⟩ := hx 3 (by omega)
    obtain ⟨x4, e4⟩ := hx 4 (by omega)
    rw [e0] at g0
    rw [e1] at g1
    rw [e2] at g2
    rw [e3] at g3
    rw [e4] at g4
    obtain ⟨z0, c0, _, w0⟩ := DataW.trod_int Tryz.underlying3 g0
    obtain ⟨s1, c1, _, w1⟩ := DataW.trod_string Tryz.underlying9 g1
    obtain ⟨z2, c2, _, w2⟩ := DataW.trod_int Tryz.underlying3 g2
    obtain ⟨z3, c3, _, w3⟩ := DataW.trod_int Tryz.underlying3 g3
    obtain ⟨l, hl⟩ := ih n' (by omega) (u := u4) (x := x4) g4
    simp at c0 c1 c2 c3
    subst c0 c1 c2 c3
    exact ⟨.mk z0 s1 z2 z3 l, u4, rfl, ⟨wf_i64 w0, by unfold maxLen at w1; simp only [Fm.name]; omega, wf_i64 w2, wf_i64 w3⟩, hl⟩

set_option maxRecDepth 100000 in
theorem trod_cells : ∀ (fuel : Nat) {u : Value} {x : DataW H × List MemPlace}, DataW.trod enc Tryz.prog w 0 (fun _ => true) true fuel 22 [u] = some x → ∃ l : List Fm, FArgs w.heap.size w u l := by
  intro fuel
  induction fuel using Nat.strongRecOn with
  | ind fuel ih =>
    intro u x hf
    rcases DataW.trod_slice Tryz.underlying22 hf with ⟨hcs, _⟩ | ⟨a, len, cap, elems, rest, n, hfu, hcs, _, _, hl, hm, hlen, hel, _⟩
    · obtain rfl : u = .slice none 0 0 := by simpa using hcs
      exact ⟨[], .nil _ _⟩
    · obtain rfl : u = .slice (some a) len cap := by simpa using hcs
      rcases Nat.eq_zero_or_pos len with h0 | hpos
      · subst h0
        exact ⟨[], .nil _ _⟩
      · have hm' : cap ≤ 9223372036854775807 := by unfold maxLen at hm; omega
        have each : ∀ k, ∃ p : Fm × Value, k < len → (w.cell? (a.add (k * 5)) = some (.int .i64 p.1.op) ∧ w.cell? ((a.add (k * 5)).add 1) = some (.string p.1.name) ∧ w.cell? ((a.add (k * 5)).add 2) = some (.int .i64 p.1.val) ∧
            w.cell? ((a.add (k * 5)).add 3) = some (.int .i64 p.1.bound) ∧ w.cell? ((a.add (k * 5)).add 4) = some p.2) ∧ Fits p.1 ∧ FArgs w.heap.size w p.2 p.1.args := by
          intro k
          by_cases hk : k < len
          · have he := hel k hk
            rw [Tryz.fmCells, List.getElem?_eq_getElem (by omega)] at he
            obtain ⟨cs', hc, ht'⟩ := Option.bind_eq_some_iff.1 he
            obtain ⟨_, _, hcell⟩ := World.cells?_some hc
            obtain ⟨f, sl, rfl, hfit, hargs⟩ := fm_cells (fun m hm => ih m (by omega)) ht'
            exact ⟨(f, sl), fun _ => ⟨⟨hcell 0 (by omega), hcell 1 (by omega), hcell 2 (by omega), hcell 3 (by omega), hcell 4 (by omega)⟩, hfit, hargs⟩⟩
          · exact ⟨(.mk 0 ByteArray.empty 0 0 [], .bool false), fun h => (hk h).elim⟩
        have hch : ∃ g : Nat → Fm × Value, ∀ k, k < len → (w.cell? (a.add (k * 5)) = some (.int .i64 (g k).1.op) ∧ w.cell? ((a.add (k * 5)).add 1) = some (.string (g k).1.name) ∧ w.cell? ((a.add (k * 5)).add 2) = some (.int .i64 (g k).1.val) ∧
            w.cell? ((a.add (k * 5)).add 3) = some (.int .i64 (g k).1.bound) ∧ w.cell? ((a.add (k * 5)).add 4) = some (g k).2) ∧ Fits (g k).1 ∧ FArgs w.heap.size w (g k).2 (g k).1.args := ⟨fun k => Classical.choose (each k), fun k => Classical.choose_spec (each k)⟩
        obtain ⟨g, hg⟩ := hch
        have sp : a.spot = none := by
          have := spot_none (hg 0 hpos).1.1
          rw [Nat.zero_mul, add_zero] at this
          exact this
        have hbl := block_lt (hg 0 hpos).1.1
        rw [Nat.zero_mul, add_zero] at hbl
        have hll : ((List.range len).map fun k => (g k).1).length = len := by simp
        refine ⟨(List.range len).map fun k => (g k).1, ?_⟩
        have hall := FArgsP.cons (P := (· < w.heap.size)) (w := w) a.block a.off cap ((List.range len).map fun k => (g k).1) (fun k => (g k).2) (by omega) hbl (by omega) hm'
          (fun k hk => by simp only [List.getElem_map, List.getElem_range]; exact (hg k (by omega)).2.1)
          (fun k hk => by
            have := (hg k (by omega)).1
            simp only [add_none sp, add_none (a := ⟨a.block, a.off + k * 5, none⟩) rfl] at this
            simp only [List.getElem_map, List.getElem_range]
            obtain ⟨q0, q1, q2, q3, q4⟩ := this
            exact ⟨q0, q1, q2, q3, q4⟩)
          (fun k hk => by simp only [List.getElem_map, List.getElem_range]; exact (hg k (by omega)).2.2)
        rw [hll] at hall
        have ha : a = ⟨a.block, a.off, none⟩ := by cases a; simp_all
        rw [ha]
        exact hall

set_option maxRecDepth 100000 in
/-- a formula -/
theorem fm_openT {v : Value} {d : DataW H} {p : List MemPlace} {base : Nat} (hv : Value.okWide Tryz.prog w .any base 24 v) (h : DataW.Trod enc Tryz.prog w 0 (fun _ => true) true 24 v d p) :
    ∃ f : Fm, FAt w.heap.size w v f := by
  obtain ⟨cs, rfl, hsz⟩ := okWide_struct Tryz.underlying24 hv
  obtain ⟨fuel, hf⟩ := h
  obtain ⟨f, sl, hcs, hfit, hargs⟩ := fm_cells (fun m _ => trod_cells m) hf
  refine ⟨f, sl, ?_, hfit, hargs⟩
  have : cs = #[.int .i64 f.op, .string f.name, .int .i64 f.val, .int .i64 f.bound, sl] := Array.toList_inj.1 hcs
  rw [this]
  rfl

set_option maxRecDepth 100000 in
/-- a list of formulas -/
theorem fms_openT {v : Value} {d : DataW H} {p : List MemPlace} {base : Nat} (hv : Value.okWide Tryz.prog w .any base 22 v) (h : DataW.Trod enc Tryz.prog w 0 (fun _ => true) true 22 v d p) :
    ∃ l : List Fm, FArgs w.heap.size w v l := by
  obtain ⟨a0, len, cap, rfl⟩ := okWide_slice Tryz.underlying22 hv
  obtain ⟨fuel, hf⟩ := h
  exact trod_cells fuel hf
end

/-- a row of the table as a datum -/
def rowData (r : Int × Int × Bool × Int × Int × Int × Int) : DataW Unit :=
  .agg [.lit (.int .i64 r.1), .lit (.int .i64 r.2.1), .lit (.bool r.2.2.1), .lit (.int .i64 r.2.2.2.1), .lit (.int .i64 r.2.2.2.2.1), .lit (.int .i64 r.2.2.2.2.2.1), .lit (.int .i64 r.2.2.2.2.2.2)]
theorem laid_rows : (Rows.laid_foresight_formula_forms : DataW Unit) = .agg (formsRows.map rowData) := rfl

set_option maxRecDepth 100000 in
theorem env_open {W : World} (h : laidMetH Tryz.prog [("foresight/formula.forms", Rows.laid_foresight_formula_forms)] W) : Env W := by
  rw [MakeChecks.laidMetH_plain _ _ _ (by kernel_rfl)] at h
  obtain ⟨ps, ⟨g, t, cs, fuel, p, q, hg, ht, hv, hd, _, _⟩, _, _⟩ := h
  obtain rfl := Option.some.inj ((show Tryz.prog.globalNamed "foresight/formula.forms" = some 0 by kernel_rfl).symm.trans hg)
  obtain rfl := Option.some.inj ((show (Tryz.prog.globals[0]?).map (·.type) = some 84 by kernel_rfl).symm.trans ht)
  obtain ⟨xs, m, _, ex, hcl, hl, hel⟩ := DataW.trod_array Tryz.underlying84 hd
  have hcell : ∀ i, W.cell? ⟨0, i, none⟩ = cs[i]? := World.var?_cell hg hv
  have e3 : xs.map (·.1) = formsRows.map rowData := (DataW.agg.inj ((Prod.mk.inj ex).1.symm.trans laid_rows))
  have hrow : ∀ k, k < 20 → W.cell? ⟨0, k * 7, none⟩ = some (.int .i64 (fLeast k)) ∧ W.cell? ⟨0, k * 7 + 1, none⟩ = some (.int .i64 (fMost k)) ∧ W.cell? ⟨0, k * 7 + 2, none⟩ = some (.bool (fNamed k)) ∧
    W.cell? ⟨0, k * 7 + 3, none⟩ = some (.int .i64 (fVal k)) ∧ W.cell? ⟨0, k * 7 + 4, none⟩ = some (.int .i64 (fBound k)) ∧ W.cell? ⟨0, k * 7 + 5, none⟩ = some (.int .i64 (fTense k)) ∧ W.cell? ⟨0, k * 7 + 6, none⟩ = some (.int .i64 (fDual k)) := by
    intro k hk
    have hE := hel k hk
    rw [Tryz.formCells, List.getElem?_eq_getElem (by omega)] at hE
    have hlen : formsRows.length = 20 := by kernel_rfl
    have e4 : (xs.map (·.1))[k]? = (formsRows.map rowData)[k]? := by rw [e3]
    rw [List.getElem?_map, List.getElem?_map, List.getElem?_eq_getElem (by omega : k < xs.length), List.getElem?_eq_getElem (by omega : k < formsRows.length), Option.map_some, Option.map_some, Option.some.injEq] at e4
    have hfr : formRow k = formsRows[k] := by unfold formRow; rw [List.getD, List.getElem?_eq_getElem (by omega : k < formsRows.length)]; rfl
    obtain ⟨ys, n', _, ey, hl7, hyl, hg7⟩ := DataW.trod_struct Tryz.underlying83 hE
    rw [Tryz.formCells] at hl7
    rw [ey] at e4
    have e5 := DataW.agg.inj (e4.trans (congrArg rowData hfr.symm))
    have hyl' : ys.length = 7 := hyl
    match ys, hyl' with
    | [y0, y1, y2, y3, y4, y5, y6], _ =>
      simp only [List.map_cons, List.map_nil, List.cons.injEq, and_true] at e5
      obtain ⟨d0, d1, d2, d3, d4, d5, d6⟩ := e5
      have one := hone_of (Tryz.formOne _ Tryz.underlying83)
      have at7 : ∀ (j : Nat) (v : Value), (((cs.toList.drop (k * 7)).take 7).drop j).take 1 = [v] → j < 7 → W.cell? ⟨0, k * 7 + j, none⟩ = some v := by
        intro j v hj hlt
        rw [hcell]
        have h0 : ((((cs.toList.drop (k * 7)).take 7).drop j).take 1)[0]? = some v := by rw [hj]; rfl
        rw [List.getElem?_take_of_lt (by omega), List.getElem?_drop, List.getElem?_take_of_lt (by omega), List.getElem?_drop] at h0
        simpa using h0
      have g0 := hg7 0 _ rfl
      have g1 := hg7 1 _ rfl
      have g2 := hg7 2 _ rfl
      have g3 := hg7 3 _ rfl
      have g4 := hg7 4 _ rfl
      have g5 := hg7 5 _ rfl
      have g6 := hg7 6 _ rfl
      rw [(one 0 _ rfl).1, (one 0 _ rfl).2] at g0
      rw [(one 1 _ rfl).1, (one 1 _ rfl).2] at g1
      rw [(one 2 _ rfl).1, (one 2 _ rfl).2] at g2
      rw [(one 3 _ rfl).1, (one 3 _ rfl).2] at g3
      rw [(one 4 _ rfl).1, (one 4 _ rfl).2] at g4
      rw [(one 5 _ rfl).1, (one 5 _ rfl).2] at g5
      rw [(one 6 _ rfl).1, (one 6 _ rfl).2] at g6
      obtain ⟨z0, c0, r0, _⟩ := DataW.trod_int (x := y0) Tryz.underlying3 g0
      obtain ⟨z1, c1, r1, _⟩ := DataW.trod_int (x := y1) Tryz.underlying3 g1
      obtain ⟨z2, c2, r2⟩ := DataW.trod_bool (x := y2) Tryz.underlying4 g2
      obtain ⟨z3, c3, r3, _⟩ := DataW.trod_int (x := y3) Tryz.underlying3 g3
      obtain ⟨z4, c4, r4, _⟩ := DataW.trod_int (x := y4) Tryz.underlying3 g4
      obtain ⟨z5, c5, r5, _⟩ := DataW.trod_int (x := y5) Tryz.underlying3 g5
      obtain ⟨z6, c6, r6, _⟩ := DataW.trod_int (x := y6) Tryz.underlying3 g6
      rw [r0] at d0
      rw [r1] at d1
      rw [r2] at d2
      rw [r3] at d3
      rw [r4] at d4
      rw [r5] at d5
      rw [r6] at d6
      simp only [DataW.lit.injEq, Lit.int.injEq, Lit.bool.injEq, true_and] at d0 d1 d2 d3 d4 d5 d6
      subst d0 d1 d2 d3 d4 d5 d6
      exact ⟨at7 0 _ c0 (by omega), at7 1 _ c1 (by omega), at7 2 _ c2 (by omega), at7 3 _ c3 (by omega), at7 4 _ c4 (by omega), at7 5 _ c5 (by omega), at7 6 _ c6 (by omega)⟩
  exact ⟨block_lt (hrow 0 (by omega)).1, hrow⟩

end Go.Proofs.YtbnnjbfbifihaaaGreatDoor

/-
  A formula law's row from its walk: the call returns true and turns nothing that was there.
-/
namespace Go.Proofs.YtbnnjbfbifihaaaGreatDoor
open Go.ChangeShapes Go.WideShapes Go.ChangeAt Go.RowKit Go.Deep

theorem wf_u8 {z : Int} (h : (Lit.int .u8 z).wf = true) : 0 ≤ z ∧ z ≤ 255 := by
  have h1 : IntKind.u8.min = 0 := rfl
  have h2 : IntKind.u8.max = 255 := rfl
  simp only [Lit.wf, Bool.and_eq_true, decide_eq_true_eq] at h
  omega

theorem stay_all {H : Type} {enc : TypeId × Value → H} {W W' : World} (hb : Below W.heap.size W W') : ∀ {ts : List TypeId} {vs : List Value} {ds : List (DataW H)} {ps : List MemPlace},
    (∀ t ∈ ts, Tryz.prog.readableRec t = true ∧ t < Tryz.prog.types.size) → DataW.TrodAll enc Tryz.prog W 0 (fun _ => true) true ts vs ds ps → (∀ x ∈ ps, x.block < W.heap.size) →
    DataW.TrodAll enc Tryz.prog W' 0 (fun b => decide (b < W.heap.size)) true ts vs ds ps
  | [], vs, ds, ps, _, h, _ => by
    obtain ⟨rfl, rfl, rfl⟩ := trodAll_nil h
    exact trodAll_mk0
  | t :: ts, vs, ds, ps, hr, h, hlt => by
    obtain ⟨v, vs', d, ds', p, q, rfl, rfl, rfl, h1, h2⟩ := trodAll_cons h
    obtain ⟨r1, r2⟩ := hr t (List.mem_cons_self ..)
    exact ⟨p, q, Below.trod Tryz.laidOut r1 r2 h1 hb (fun x hx => hlt x (List.mem_append_left _ hx)), stay_all hb (fun t ht => hr t (List.mem_cons_of_mem _ ht)) h2 (fun x hx => hlt x (List.mem_append_right _ hx)), rfl⟩

theorem law_post {H : Type} {enc : TypeId × Value → H} {n : Nat} {f : Func} {s : ChangeSpec} {W : World} {args : Array Value} {ds gs : List (DataW H)} {before : List MemPlace}
    (hW : DataW.Whole enc Tryz.prog f.params.toList s.vars false W args.toList ds gs before) (hvars : s.vars = []) (hrt : f.resultTypes = #[4])
    (hpar : ∀ t ∈ f.params.toList, Tryz.prog.readableRec t = true ∧ t < Tryz.prog.types.size)
    (hres : (s.fn H (ds ++ gs)).results = [.lit (.bool true)]) (hargs : (s.fn H (ds ++ gs)).args = ds) (hvs : (s.fn H (ds ++ gs)).vars = [])
    (hc : Calls Tryz.prog n args W fun e W' => e = .returned (.bool true) ∧ Below W.heap.size W W') :
    Calls Tryz.prog n args W fun e W' => ∃ v, e = .returned v ∧ s.post enc Tryz.prog f false true false false W args v W' := by
  refine hc.mono ?_
  rintro e W' ⟨rfl, hb⟩
  have hlt : ∀ p ∈ before, p.block < W.heap.size := fun p hp => hW.lt p hp
  have hW' := hW
  obtain ⟨p, q, hA, hV, rfl, hfz, hnd⟩ := hW'
  rw [hvars] at hV
  obtain ⟨rfl, rfl⟩ := trodVars_none hV
  refine ⟨_, rfl, ds, [], p ++ [], [], p, [], hW, ?_, ?_, ?_, hb.frame _, fun h => by cases h⟩
  · rw [hres, hrt]
    exact trodAll_mk1 (shut_bool Tryz.underlying4 true)
  · rw [hargs]
    exact stay_all hb hpar hA (fun x hx => hlt x (List.mem_append_left _ hx))
  · rw [hvs, hvars]
    rfl

/-- what the rows list -/
def laidForms : List (String × DataW Unit) := [("foresight/formula.forms", Rows.laid_foresight_formula_forms)]

end Go.Proofs.YtbnnjbfbifihaaaGreatDoor
