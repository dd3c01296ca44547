/-
  What the law's arguments read as, opened to cells; and the row's last step where the call has turned nothing that was there.
-/
import Derived.Test.YtbifbaennjglmaaRows
import Derived.Test.YtbifbaennjglmaaSigC
import Derived.ProofKit
import Derived.Deep.Slices
import Derived.Deep.Fields
namespace Go.Proofs.Ytbifbaennjglmaa
open Go.ChangeShapes Go.WideShapes Go.ChangeAt Go.RowKit Go.Deep

theorem Try.own : ownKnob Try.prog.godebug = none := by kernel_rfl
theorem Try.laidOut : laidOutB Try.prog = true := by kernel_rfl
theorem Try.sigCells : Try.prog.cellsOf 36 = 3 := by kernel_rfl
theorem Try.intCells : Try.prog.cellsOf 3 = 1 := by kernel_rfl
theorem Try.sigOne : ∀ fs, Try.prog.underlying 36 = some (.struct fs) → oneCellFields Try.prog fs = true := by
  intro fs h
  rw [Try.underlying36] at h
  cases h
  kernel_rfl

section
variable {H : Type} {enc : TypeId × Value → H} {w : World}

theorem spot_none {a : Addr} {v : Value} (h : w.cell? a = some v) : a.spot = none := by
  unfold World.cell? at h
  split at h
  · split at h
    · cases h
    · rename_i hs
      simpa using hs
  · cases h

theorem block_lt {a : Addr} {v : Value} (h : w.cell? a = some v) : a.block < w.heap.size := by
  obtain ⟨o, ho, _⟩ := cells_of_cell h
  exact (Array.getElem?_eq_some_iff.1 ho).1

theorem add_zero (a : Addr) : a.add 0 = a := rfl
theorem addr_eq {a : Addr} {n : Nat} {v : Value} (ha : a.spot = none) (h : w.cell? (a.add n) = some v) : w.cell? ⟨a.block, a.off + n, none⟩ = some v := by
  have : a.add n = ⟨a.block, a.off + n, none⟩ := by
    unfold Addr.add
    split
    · rename_i hn; subst hn; cases a; simp_all
    · rfl
  rw [← this]
  exact h

theorem wf_i64 {z : Int} (h : (Lit.int .i64 z).wf = true) : -9223372036854775808 ≤ z ∧ z ≤ 9223372036854775807 := by
  have h1 : IntKind.i64.min = -9223372036854775808 := rfl
  have h2 : IntKind.i64.max = 9223372036854775807 := rfl
  simp only [Lit.wf, Bool.and_eq_true, decide_eq_true_eq] at h
  omega

theorem slice_shape {v : Value} {t e : TypeId} {base : Nat} (ht : Try.prog.underlying t = some (.slice e)) (hv : Value.okWide Try.prog w .any base t v) : ∃ a0 len cap, v = .slice a0 len cap := okWide_slice ht hv

/-- a slice of signals -/
theorem sigs_open {v : Value} {d : DataW H} {p : List MemPlace} {base : Nat} (hv : Value.okWide Try.prog w .any base 22 v) (h : DataW.Trod enc Try.prog w 0 (fun _ => true) true 22 v d p) :
    ∃ l : List Sig, Sigs w.heap.size w v l := by
  obtain ⟨a0, len, cap, rfl⟩ := slice_shape Try.underlying22 hv
  obtain ⟨fuel, hf⟩ := h
  rcases open_slice Try.underlying22 hf with ⟨hcs, hx⟩ | ⟨a, len', cap', m, n, D, Pl, hcs, _, hl, hm, hmm, hx, hi⟩
  · simp [Value.cells] at hcs
    obtain ⟨rfl, rfl, rfl⟩ := hcs
    exact ⟨[], .inl ⟨_, _, rfl, rfl⟩⟩
  · simp [Value.cells] at hcs
    obtain ⟨rfl, rfl, rfl⟩ := hcs
    rcases Nat.eq_zero_or_pos len with h0 | hpos
    · subst h0
      exact ⟨[], .inl ⟨_, _, rfl, rfl⟩⟩
    · simp at hmm
      have hm' : cap ≤ 9223372036854775807 := by unfold maxLen at hm; omega
      have each : ∀ k, ∃ s : Sig, k < len → w.cell? (a.add (k * 3)) = some (.string s.name) ∧ w.cell? ((a.add (k * 3)).add 1) = some (.bool s.input) ∧ w.cell? ((a.add (k * 3)).add 2) = some (.int .i64 s.size) ∧
          s.name.size ≤ 9223372036854775807 ∧ -9223372036854775808 ≤ s.size ∧ s.size ≤ 9223372036854775807 := by
        intro k
        by_cases hk : k < len
        · obtain ⟨cs', hc, ht'⟩ := hi k (by omega)
          rw [Try.sigCells] at hc
          obtain ⟨_, hlen3, hcell⟩ := World.cells?_some hc
          obtain ⟨xs, n', _, _, _, _, hg⟩ := DataW.trod_struct Try.underlying36 ht'
          have g0 := hg 0 _ rfl
          have g1 := hg 1 _ rfl
          have g2 := hg 2 _ rfl
          match cs', hlen3 with
          | [u0, u1, u2], _ =>
            obtain ⟨o0, k0⟩ := hone_of (Try.sigOne _ Try.underlying36) 0 _ rfl
            obtain ⟨o1, k1⟩ := hone_of (Try.sigOne _ Try.underlying36) 1 _ rfl
            obtain ⟨o2, k2⟩ := hone_of (Try.sigOne _ Try.underlying36) 2 _ rfl
            rw [o0, k0] at g0
            rw [o1, k1] at g1
            rw [o2, k2] at g2
            have hx0 : ∃ x0, xs[0]? = some x0 := by cases e : xs[0]? with | some x => exact ⟨x, rfl⟩ | none => (rw [e] at g0; simp_all)
            have hx1 : ∃ x1, xs[1]? = some x1 := by cases e : xs[1]? with | some x => exact ⟨x, rfl⟩ | none => (rw [e] at g1; simp_all)
            have hx2 : ∃ x2, xs[2]? = some x2 := by cases e : xs[2]? with | some x => exact ⟨x, rfl⟩ | none => (rw [e] at g2; simp_all)
            obtain ⟨x0, e0⟩ := hx0
            obtain ⟨x1, e1⟩ := hx1
            obtain ⟨x2, e2⟩ := hx2
            rw [e0] at g0
            rw [e1] at g1
            rw [e2] at g2
            obtain ⟨s0, c0, _, hs0⟩ := DataW.trod_string Try.underlying9 g0
            obtain ⟨b0, c1, _⟩ := DataW.trod_bool Try.underlying4 g1
            obtain ⟨z0, c2, _, wz⟩ := DataW.trod_int Try.underlying3 g2
            simp at c0 c1 c2
            subst c0 c1 c2
            have q0 := hcell 0 (by omega)
            have q1 := hcell 1 (by omega)
            have q2 := hcell 2 (by omega)
            simp only [List.getElem?_cons_zero, List.getElem?_cons_succ] at q0 q1 q2
            exact ⟨⟨s0, b0, z0⟩, fun _ => ⟨q0, q1, q2, by unfold maxLen at hs0; omega, wf_i64 wz⟩⟩
        · exact ⟨⟨ByteArray.empty, false, 0⟩, fun h => (hk h).elim⟩
      have hch : ∃ g : Nat → Sig, ∀ k, k < len → w.cell? (a.add (k * 3)) = some (.string (g k).name) ∧ w.cell? ((a.add (k * 3)).add 1) = some (.bool (g k).input) ∧ w.cell? ((a.add (k * 3)).add 2) = some (.int .i64 (g k).size) ∧
          (g k).name.size ≤ 9223372036854775807 ∧ -9223372036854775808 ≤ (g k).size ∧ (g k).size ≤ 9223372036854775807 := ⟨fun k => Classical.choose (each k), fun k => Classical.choose_spec (each k)⟩
      obtain ⟨g, hg⟩ := hch
      have sp : a.spot = none := by
        have := spot_none (hg 0 hpos).1
        rw [Nat.zero_mul, add_zero] at this
        exact this
      have hbl := block_lt (hg 0 hpos).1
      rw [Nat.zero_mul, add_zero] at hbl
      have hadd : ∀ n, a.add n = ⟨a.block, a.off + n, none⟩ := by
        intro n
        unfold Addr.add
        split
        · rename_i hn; subst hn; cases a; simp_all
        · rfl
      refine ⟨(List.range len).map g, .inr ⟨a.block, a.off, cap, ?_, hbl, by simp; omega, hm', fun k hk => ?_⟩⟩
      · have := hadd 0
        rw [add_zero] at this
        rw [List.length_map, List.length_range]
        exact congrArg (fun b => Value.slice (some b) len cap) this
      · rw [List.length_map, List.length_range] at hk
        obtain ⟨q0, q1, q2, q3⟩ := hg k hk
        rw [hadd] at q0 q1 q2
        simp only [List.getElem_map, List.getElem_range]
        exact ⟨q0, by simpa [Addr.add] using q1, by simpa [Addr.add] using q2, q3⟩

/-- a slice of ints -/
theorem ints_open {v : Value} {d : DataW H} {p : List MemPlace} {base : Nat} (hv : Value.okWide Try.prog w .any base 23 v) (h : DataW.Trod enc Try.prog w 0 (fun _ => true) true 23 v d p) :
    ∃ xs : List Int, IntsAt w.heap.size w v xs := by
  obtain ⟨a0, len, cap, rfl⟩ := slice_shape Try.underlying23 hv
  obtain ⟨fuel, hf⟩ := h
  rcases open_slice Try.underlying23 hf with ⟨hcs, hx⟩ | ⟨a, len', cap', m, n, D, Pl, hcs, _, hl, hm, hmm, hx, hi⟩
  · simp [Value.cells] at hcs
    obtain ⟨rfl, rfl, rfl⟩ := hcs
    exact ⟨[], .inl ⟨_, _, rfl, rfl⟩⟩
  · simp [Value.cells] at hcs
    obtain ⟨rfl, rfl, rfl⟩ := hcs
    rcases Nat.eq_zero_or_pos len with h0 | hpos
    · subst h0
      exact ⟨[], .inl ⟨_, _, rfl, rfl⟩⟩
    · simp at hmm
      have hm' : cap ≤ 9223372036854775807 := by unfold maxLen at hm; omega
      have each : ∀ k, ∃ z : Int, k < len → w.cell? (a.add k) = some (.int .i64 z) ∧ -9223372036854775808 ≤ z ∧ z ≤ 9223372036854775807 := by
        intro k
        by_cases hk : k < len
        · obtain ⟨cs', hc, ht'⟩ := hi k (by omega)
          rw [Try.intCells, Nat.mul_one] at hc
          obtain ⟨_, hlen1, hcell⟩ := World.cells?_some hc
          obtain ⟨z0, c0, _, wz⟩ := DataW.trod_int Try.underlying3 ht'
          subst c0
          have q0 := hcell 0 (by omega)
          exact ⟨z0, fun _ => ⟨q0, wf_i64 wz⟩⟩
        · exact ⟨0, fun h => (hk h).elim⟩
      have hch : ∃ g : Nat → Int, ∀ k, k < len → w.cell? (a.add k) = some (.int .i64 (g k)) ∧ -9223372036854775808 ≤ g k ∧ g k ≤ 9223372036854775807 := ⟨fun k => Classical.choose (each k), fun k => Classical.choose_spec (each k)⟩
      obtain ⟨g, hg⟩ := hch
      have sp : a.spot = none := by
        have := spot_none (hg 0 hpos).1
        rw [add_zero] at this
        exact this
      have hbl := block_lt (hg 0 hpos).1
      rw [add_zero] at hbl
      have hadd : ∀ n, a.add n = ⟨a.block, a.off + n, none⟩ := by
        intro n
        unfold Addr.add
        split
        · rename_i hn; subst hn; cases a; simp_all
        · rfl
      refine ⟨(List.range len).map g, .inr ⟨a.block, a.off, cap, ?_, hbl, by simp; omega, hm', fun k hk => ?_⟩⟩
      · have := hadd 0
        rw [add_zero] at this
        rw [List.length_map, List.length_range]
        exact congrArg (fun b => Value.slice (some b) len cap) this
      · rw [List.length_map, List.length_range] at hk
        obtain ⟨q0, q3⟩ := hg k hk
        rw [hadd] at q0
        simp only [List.getElem_map, List.getElem_range]
        exact ⟨q0, q3⟩
end

end Go.Proofs.Ytbifbaennjglmaa
