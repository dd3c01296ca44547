/-
  What a word law's arguments read as, opened to cells: lists of numbers, lassos, tables.
-/
import Derived.Test.YtcbddplgleeiiaaRows
import Derived.Test.YtcbddplgleeiiaaWdN
import Derived.ProofKit
import Derived.Deep.Slices
import Derived.Deep.Fields
namespace Go.Proofs.Ytcbddplgleeiiaa
open Go.ChangeShapes Go.WideShapes Go.ChangeAt Go.RowKit Go.Deep

theorem Try.own : ownKnob Try.prog.godebug = none := by kernel_rfl
theorem Try.laidOut : laidOutB Try.prog = true := by kernel_rfl
theorem Try.intCells : Try.prog.cellsOf 3 = 1 := by kernel_rfl
theorem Try.intsCells : Try.prog.cellsOf 22 = 1 := by kernel_rfl
theorem Try.lasCells : Try.prog.cellsOf 24 = 2 := by kernel_rfl
theorem Try.lasOne : ∀ fs, Try.prog.underlying 24 = some (.struct fs) → oneCellFields Try.prog fs = true := by
  intro fs h
  rw [Try.underlying24] at h
  cases h
  kernel_rfl

section
variable {H : Type} {enc : TypeId × Value → H} {w : World}

theorem spot_none {a : Addr} {v : Value} (h : w.cell? a = some v) : a.spot = none := by
  unfold World.cell? at h
  split at h
  · split at h
    · cases h
    · rename_i hs
      simpa using hs
  · cases h

theorem block_lt {a : Addr} {v : Value} (h : w.cell? a = some v) : a.block < w.heap.size := by
  obtain ⟨o, ho, _⟩ := cells_of_cell h
  exact (Array.getElem?_eq_some_iff.1 ho).1

theorem add_zero (a : Addr) : a.add 0 = a := rfl
theorem addr_eq {a : Addr} {n : Nat} {v : Value} (ha : a.spot = none) (h : w.cell? (a.add n) = some v) : w.cell? ⟨a.block, a.off + n, none⟩ = some v := by
  have : a.add n = ⟨a.block, a.off + n, none⟩ := by
    unfold Addr.add
    split
    · rename_i hn; subst hn; cases a; simp_all
    · rfl
  rw [← this]
  exact h

theorem wf_i64 {z : Int} (h : (Lit.int .i64 z).wf = true) : -9223372036854775808 ≤ z ∧ z ≤ 9223372036854775807 := by
  have h1 : IntKind.i64.min = -9223372036854775808 := rfl
  have h2 : IntKind.i64.max = 9223372036854775807 := rfl
  simp only [Lit.wf, Bool.and_eq_true, decide_eq_true_eq] at h
  omega

theorem slice_shape {v : Value} {t e : TypeId} {base : Nat} (ht : Try.prog.underlying t = some (.slice e)) (hv : Value.okWide Try.prog w .any base t v) : ∃ a0 len cap, v = .slice a0 len cap := okWide_slice ht hv

/-- a slice of ints, from its cell -/
theorem ints_cells {u : Value} {fuel : Nat} {x : DataW H × List MemPlace} (hf : DataW.trod enc Try.prog w 0 (fun _ => true) true fuel 22 [u] = some x) : ∃ xs : List Int, IntsAt w.heap.size w u xs := by
  rcases open_slice Try.underlying22 hf with ⟨hcs, hx⟩ | ⟨a, len', cap', m, n, D, Pl, hcs, _, hl, hm, hmm, hx, hi⟩
  · obtain rfl : u = .slice none 0 0 := by simpa using hcs
    exact ⟨[], .inl ⟨_, _, rfl, rfl⟩⟩
  · obtain rfl : u = .slice (some a) len' cap' := by simpa using hcs
    rcases Nat.eq_zero_or_pos len' with h0 | hpos
    · subst h0
      exact ⟨[], .inl ⟨_, _, rfl, rfl⟩⟩
    · simp at hmm
      have hm' : cap' ≤ 9223372036854775807 := by unfold maxLen at hm; omega
      have each : ∀ k, ∃ z : Int, k < len' → w.cell? (a.add k) = some (.int .i64 z) ∧ -9223372036854775808 ≤ z ∧ z ≤ 9223372036854775807 := by
        intro k
        by_cases hk : k < len'
        · obtain ⟨cs', hc, ht'⟩ := hi k (by omega)
          rw [Try.intCells, Nat.mul_one] at hc
          obtain ⟨_, hlen1, hcell⟩ := World.cells?_some hc
          obtain ⟨z0, c0, _, wz⟩ := DataW.trod_int Try.underlying3 ht'
          subst c0
          have q0 := hcell 0 (by omega)
          exact ⟨z0, fun _ => ⟨q0, wf_i64 wz⟩⟩
        · exact ⟨0, fun h => (hk h).elim⟩
      have hch : ∃ g : Nat → Int, ∀ k, k < len' → w.cell? (a.add k) = some (.int .i64 (g k)) ∧ -9223372036854775808 ≤ g k ∧ g k ≤ 9223372036854775807 := ⟨fun k => Classical.choose (each k), fun k => Classical.choose_spec (each k)⟩
      obtain ⟨g, hg⟩ := hch
      have sp : a.spot = none := by
        have := spot_none (hg 0 hpos).1
        rw [add_zero] at this
        exact this
      have hbl := block_lt (hg 0 hpos).1
      rw [add_zero] at hbl
      have hadd : ∀ n, a.add n = ⟨a.block, a.off + n, none⟩ := by
        intro n
        unfold Addr.add
        split
        · rename_i hn; subst hn; cases a; simp_all
        · rfl
      refine ⟨(List.range len').map g, .inr ⟨a.block, a.off, cap', ?_, hbl, by simp; omega, hm', fun k hk => ?_⟩⟩
      · have := hadd 0
        rw [add_zero] at this
        rw [List.length_map, List.length_range]
        exact congrArg (fun b => Value.slice (some b) len' cap') this
      · rw [List.length_map, List.length_range] at hk
        obtain ⟨q0, q3⟩ := hg k hk
        rw [hadd] at q0
        simp only [List.getElem_map, List.getElem_range]
        exact ⟨q0, q3⟩

theorem ints_open {v : Value} {d : DataW H} {p : List MemPlace} {base : Nat} (hv : Value.okWide Try.prog w .any base 22 v) (h : DataW.Trod enc Try.prog w 0 (fun _ => true) true 22 v d p) :
    ∃ xs : List Int, IntsAt w.heap.size w v xs := by
  obtain ⟨a0, len, cap, rfl⟩ := slice_shape Try.underlying22 hv
  obtain ⟨fuel, hf⟩ := h
  exact ints_cells hf

/-- a lasso -/
theorem las_openT {v : Value} {d : DataW H} {p : List MemPlace} {base : Nat} (hv : Value.okWide Try.prog w .any base 24 v) (h : DataW.Trod enc Try.prog w 0 (fun _ => true) true 24 v d p) :
    ∃ s l : List Int, LasAt w.heap.size w v s l := by
  obtain ⟨cs, rfl, hsz⟩ := okWide_struct Try.underlying24 hv
  rw [Try.lasCells] at hsz
  obtain ⟨u, t, rfl⟩ : ∃ u t, cs = #[u, t] := by
    rcases cs with ⟨l⟩
    match l, hsz with
    | [u, t], _ => exact ⟨u, t, rfl⟩
  obtain ⟨fuel, hf⟩ := h
  obtain ⟨xs, n', _, _, _, _, hg⟩ := DataW.trod_struct Try.underlying24 hf
  have g0 := hg 0 _ rfl
  have g1 := hg 1 _ rfl
  obtain ⟨o0, k0⟩ := hone_of (Try.lasOne _ Try.underlying24) 0 _ rfl
  obtain ⟨o1, k1⟩ := hone_of (Try.lasOne _ Try.underlying24) 1 _ rfl
  rw [o0, k0] at g0
  rw [o1, k1] at g1
  have hx0 : ∃ x0, xs[0]? = some x0 := by cases e : xs[0]? with | some x => exact ⟨x, rfl⟩ | none => (rw [e] at g0; simp_all)
  have hx1 : ∃ x1, xs[1]? = some x1 := by cases e : xs[1]? with | some x => exact ⟨x, rfl⟩ | none => (rw [e] at g1; simp_all)
  obtain ⟨x0, e0⟩ := hx0
  obtain ⟨x1, e1⟩ := hx1
  rw [e0] at g0
  rw [e1] at g1
  obtain ⟨s, hs⟩ := ints_cells (u := u) (x := x0) g0
  obtain ⟨l, hl⟩ := ints_cells (u := t) (x := x1) g1
  exact ⟨s, l, u, t, rfl, hs, hl⟩

/-- a slice of slices of ints -/
theorem tab_openT {v : Value} {d : DataW H} {p : List MemPlace} {base : Nat} (hv : Value.okWide Try.prog w .any base 25 v) (h : DataW.Trod enc Try.prog w 0 (fun _ => true) true 25 v d p) :
    ∃ T : List (List Int), TabAt w.heap.size w v T := by
  obtain ⟨a0, len, cap, rfl⟩ := slice_shape Try.underlying25 hv
  obtain ⟨fuel, hf⟩ := h
  rcases open_slice Try.underlying25 hf with ⟨hcs, hx⟩ | ⟨a, len', cap', m, n, D, Pl, hcs, _, hl, hm, hmm, hx, hi⟩
  · simp [Value.cells] at hcs
    obtain ⟨rfl, rfl, rfl⟩ := hcs
    exact ⟨[], .inl ⟨_, _, rfl, rfl⟩⟩
  · simp [Value.cells] at hcs
    obtain ⟨rfl, rfl, rfl⟩ := hcs
    rcases Nat.eq_zero_or_pos len with h0 | hpos
    · subst h0
      exact ⟨[], .inl ⟨_, _, rfl, rfl⟩⟩
    · simp at hmm
      have hm' : cap ≤ 9223372036854775807 := by unfold maxLen at hm; omega
      have each : ∀ k, ∃ r : List Int, k < len → ∃ u, w.cell? (a.add k) = some u ∧ IntsAt w.heap.size w u r := by
        intro k
        by_cases hk : k < len
        · obtain ⟨cs', hc, ht'⟩ := hi k (by omega)
          rw [Try.intsCells, Nat.mul_one] at hc
          obtain ⟨_, hlen1, hcell⟩ := World.cells?_some hc
          match cs', hlen1 with
          | [u], _ =>
            obtain ⟨r, hr⟩ := ints_cells ht'
            have q0 := hcell 0 (by omega)
            exact ⟨r, fun _ => ⟨u, q0, hr⟩⟩
        · exact ⟨[], fun h => (hk h).elim⟩
      have hch : ∃ g : Nat → List Int, ∀ k, k < len → ∃ u, w.cell? (a.add k) = some u ∧ IntsAt w.heap.size w u (g k) := ⟨fun k => Classical.choose (each k), fun k => Classical.choose_spec (each k)⟩
      obtain ⟨g, hg⟩ := hch
      obtain ⟨u0, hu0, _⟩ := hg 0 hpos
      have sp : a.spot = none := by
        have := spot_none hu0
        rw [add_zero] at this
        exact this
      have hbl := block_lt hu0
      rw [add_zero] at hbl
      have hadd : ∀ n, a.add n = ⟨a.block, a.off + n, none⟩ := by
        intro n
        unfold Addr.add
        split
        · rename_i hn; subst hn; cases a; simp_all
        · rfl
      refine ⟨(List.range len).map g, .inr ⟨a.block, a.off, cap, ?_, hbl, by simp; omega, hm', fun k hk => ?_⟩⟩
      · have := hadd 0
        rw [add_zero] at this
        rw [List.length_map, List.length_range]
        exact congrArg (fun b => Value.slice (some b) len cap) this
      · rw [List.length_map, List.length_range] at hk
        obtain ⟨u, q0, q3⟩ := hg k hk
        rw [hadd] at q0
        simp only [List.getElem_map, List.getElem_range]
        exact ⟨u, q0, q3⟩
end

end Go.Proofs.Ytcbddplgleeiiaa
