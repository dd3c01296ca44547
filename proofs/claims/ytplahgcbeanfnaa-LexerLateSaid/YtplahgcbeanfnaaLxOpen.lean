/-
  A law's row from its walk: the call returns true and turns nothing that was there; what a slice of bytes reads as.
-/
import Derived.Test.YtplahgcbeanfnaaRows
import Derived.Test.YtplahgcbeanfnaaLxM
import Derived.ProofKit
import Derived.Deep.Slices
import Derived.Deep.Fields
namespace Go.Proofs.Ytplahgcbeanfnaa
open Go.ChangeShapes Go.WideShapes Go.ChangeAt Go.RowKit Go.Deep

theorem Try.own : ownKnob Try.prog.godebug = none := by kernel_rfl
theorem Try.laidOut : laidOutB Try.prog = true := by kernel_rfl
theorem Try.u8Cells : Try.prog.cellsOf 5 = 1 := by kernel_rfl

section
variable {H : Type} {enc : TypeId × Value → H} {w : World}

theorem spot_none {a : Addr} {v : Value} (h : w.cell? a = some v) : a.spot = none := by
  unfold World.cell? at h
  split at h
  · split at h
    · cases h
    · rename_i hs
      simpa using hs
  · cases h
theorem block_lt {a : Addr} {v : Value} (h : w.cell? a = some v) : a.block < w.heap.size := World.block_lt_of_cell? w a h
theorem add_zero (a : Addr) : a.add 0 = a := rfl
theorem wf_u8 {z : Int} (h : (Lit.int .u8 z).wf = true) : 0 ≤ z ∧ z ≤ 255 := by
  have h1 : IntKind.u8.min = 0 := rfl
  have h2 : IntKind.u8.max = 255 := rfl
  simp only [Lit.wf, Bool.and_eq_true, decide_eq_true_eq] at h
  omega
theorem slice_shape {v : Value} {t e : TypeId} {base : Nat} (ht : Try.prog.underlying t = some (.slice e)) (hv : Value.okWide Try.prog w .any base t v) : ∃ a0 len cap, v = .slice a0 len cap := okWide_slice ht hv

/-- a slice of bytes -/
theorem bytes_open {v : Value} {d : DataW H} {p : List MemPlace} {base : Nat} (hv : Value.okWide Try.prog w .any base 30 v) (h : DataW.Trod enc Try.prog w 0 (fun _ => true) true 30 v d p) :
    ∃ xs : List Int, BytesAt w.heap.size w v xs := by
  obtain ⟨a0, len, cap, rfl⟩ := slice_shape Try.underlying30 hv
  obtain ⟨fuel, hf⟩ := h
  rcases open_slice Try.underlying30 hf with ⟨hcs, hx⟩ | ⟨a, len', cap', m, n, D, Pl, hcs, _, hl, hm, hmm, hx, hi⟩
  · simp [Value.cells] at hcs
    obtain ⟨rfl, rfl, rfl⟩ := hcs
    exact ⟨[], .inl ⟨_, _, rfl, rfl⟩⟩
  · simp [Value.cells] at hcs
    obtain ⟨rfl, rfl, rfl⟩ := hcs
    rcases Nat.eq_zero_or_pos len with h0 | hpos
    · subst h0
      exact ⟨[], .inl ⟨_, _, rfl, rfl⟩⟩
    · simp at hmm
      have hm' : cap ≤ 9223372036854775807 := by unfold maxLen at hm; omega
      have each : ∀ k, ∃ z : Int, k < len → w.cell? (a.add k) = some (.int .u8 z) ∧ 0 ≤ z ∧ z ≤ 255 := by
        intro k
        by_cases hk : k < len
        · obtain ⟨cs', hc, ht'⟩ := hi k (by omega)
          rw [Try.u8Cells, Nat.mul_one] at hc
          obtain ⟨_, hlen1, hcell⟩ := World.cells?_some hc
          obtain ⟨z0, c0, _, wz⟩ := DataW.trod_int Try.underlying5 ht'
          subst c0
          have q0 := hcell 0 (by omega)
          exact ⟨z0, fun _ => ⟨q0, wf_u8 wz⟩⟩
        · exact ⟨0, fun h => (hk h).elim⟩
      have hch : ∃ g : Nat → Int, ∀ k, k < len → w.cell? (a.add k) = some (.int .u8 (g k)) ∧ 0 ≤ g k ∧ g k ≤ 255 := ⟨fun k => Classical.choose (each k), fun k => Classical.choose_spec (each k)⟩
      obtain ⟨g, hg⟩ := hch
      have sp : a.spot = none := by
        have := spot_none (hg 0 hpos).1
        rw [add_zero] at this
        exact this
      have hbl := block_lt (hg 0 hpos).1
      rw [add_zero] at hbl
      have hadd : ∀ n, a.add n = ⟨a.block, a.off + n, none⟩ := by
        intro n
        unfold Addr.add
        split
        · rename_i hn; subst hn; cases a; simp_all
        · rfl
      refine ⟨(List.range len).map g, .inr ⟨a.block, a.off, cap, ?_, hbl, by simp; omega, hm', fun k hk => ?_⟩⟩
      · have := hadd 0
        rw [add_zero] at this
        rw [List.length_map, List.length_range]
        exact congrArg (fun b => Value.slice (some b) len cap) this
      · rw [List.length_map, List.length_range] at hk
        obtain ⟨q0, q3⟩ := hg k hk
        rw [hadd] at q0
        simp only [List.getElem_map, List.getElem_range]
        exact ⟨q0, q3⟩
end

theorem stay_all {H : Type} {enc : TypeId × Value → H} {W W' : World} (hb : Below W.heap.size W W') : ∀ {ts : List TypeId} {vs : List Value} {ds : List (DataW H)} {ps : List MemPlace},
    (∀ t ∈ ts, Try.prog.readableRec t = true ∧ t < Try.prog.types.size) → DataW.TrodAll enc Try.prog W 0 (fun _ => true) true ts vs ds ps → (∀ x ∈ ps, x.block < W.heap.size) →
    DataW.TrodAll enc Try.prog W' 0 (fun b => decide (b < W.heap.size)) true ts vs ds ps
  | [], vs, ds, ps, _, h, _ => by
    obtain ⟨rfl, rfl, rfl⟩ := trodAll_nil h
    exact trodAll_mk0
  | t :: ts, vs, ds, ps, hr, h, hlt => by
    obtain ⟨v, vs', d, ds', p, q, rfl, rfl, rfl, h1, h2⟩ := trodAll_cons h
    obtain ⟨r1, r2⟩ := hr t (List.mem_cons_self ..)
    exact ⟨p, q, Below.trod Try.laidOut r1 r2 h1 hb (fun x hx => hlt x (List.mem_append_left _ hx)), stay_all hb (fun t ht => hr t (List.mem_cons_of_mem _ ht)) h2 (fun x hx => hlt x (List.mem_append_right _ hx)), rfl⟩

theorem law_post {H : Type} {enc : TypeId × Value → H} {n : Nat} {f : Func} {s : ChangeSpec} {W : World} {args : Array Value} {ds gs : List (DataW H)} {before : List MemPlace}
    (hW : DataW.Whole enc Try.prog f.params.toList s.vars false W args.toList ds gs before) (hvars : s.vars = []) (hrt : f.resultTypes = #[4])
    (hpar : ∀ t ∈ f.params.toList, Try.prog.readableRec t = true ∧ t < Try.prog.types.size)
    (hres : (s.fn H (ds ++ gs)).results = [.lit (.bool true)]) (hargs : (s.fn H (ds ++ gs)).args = ds) (hvs : (s.fn H (ds ++ gs)).vars = [])
    (hc : Calls Try.prog n args W fun e W' => e = .returned (.bool true) ∧ Below W.heap.size W W') :
    Calls Try.prog n args W fun e W' => ∃ v, e = .returned v ∧ s.post enc Try.prog f false true false false W args v W' := by
  refine hc.mono ?_
  rintro e W' ⟨rfl, hb⟩
  have hlt : ∀ p ∈ before, p.block < W.heap.size := fun p hp => hW.lt p hp
  have hW' := hW
  obtain ⟨p, q, hA, hV, rfl, hfz, hnd⟩ := hW'
  rw [hvars] at hV
  obtain ⟨rfl, rfl⟩ := trodVars_none hV
  refine ⟨_, rfl, ds, [], p ++ [], [], p, [], hW, ?_, ?_, ?_, hb.frame _, fun h => by cases h⟩
  · rw [hres, hrt]
    exact trodAll_mk1 (shut_bool Try.underlying4 true)
  · rw [hargs]
    exact stay_all hb hpar hA (fun x hx => hlt x (List.mem_append_left _ hx))
  · rw [hvs, hvars]
    rfl

end Go.Proofs.Ytplahgcbeanfnaa
