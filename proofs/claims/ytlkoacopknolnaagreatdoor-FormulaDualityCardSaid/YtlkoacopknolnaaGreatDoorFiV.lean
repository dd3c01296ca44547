/-
  FormulaDuality's statements of low formulas: sizes of negations, and the three equalities.
-/
import Derived.Test.YtlkoacopknolnaaGreatDoorFiU
import Derived.Test.YtlkoacopknolnaaGreatDoorGg
namespace Go.Proofs.YtlkoacopknolnaaGreatDoor

mutual
/-- how many nodes a negation has at most -/
def wtF : Fm → Nat | .mk _ _ _ _ a => if a.isEmpty then 2 else 1 + wtL a
def wtL : List Fm → Nat | [] => 0 | x :: l => wtF x + wtL l
end
theorem wtL_cons (x : Fm) (l : List Fm) : wtL (x :: l) = wtF x + wtL l := by rw [wtL]
theorem wtL_nil : wtL [] = 0 := by rw [wtL]
theorem wtF_eq (f : Fm) : wtF f = if f.args.isEmpty then 2 else 1 + wtL f.args := by cases f; rw [wtF]; rfl
theorem wtF_ge (f : Fm) : 1 + wtL f.args ≤ wtF f := by
  rw [wtF_eq]
  split
  · next h => rw [List.isEmpty_iff.1 h, wtL_nil]; omega
  · omega
theorem wtL_append (a b : List Fm) : wtL (a ++ b) = wtL a + wtL b := by
  induction a with
  | nil => rw [wtL_nil]; simp
  | cons x a ih => rw [List.cons_append, wtL_cons, wtL_cons, ih]; omega
theorem wtF_le (f : Fm) : wtF f ≤ 2 * f.nodes ∧ (f.args ≠ [] → wtF f + 1 ≤ 2 * f.nodes) := by
  induction f using Fm.ind with
  | h f ih =>
    have hl : ∀ l : List Fm, (∀ g ∈ l, wtF g ≤ 2 * g.nodes) → wtL l ≤ 2 * Fm.nodesL l := by
      intro l
      induction l with
      | nil => intro _; rw [wtL_nil]; omega
      | cons x l ihl => intro h; rw [wtL_cons, Fm.nodesL_cons]; have h1 := h x (by simp); have h2 := ihl fun g hg => h g (by simp [hg]); omega
    have h1 := hl f.args fun g hg => (ih g hg).1
    rw [wtF_eq, Fm.nodes_eq f]
    split
    · next h => exact ⟨by omega, fun h2 => absurd (List.isEmpty_iff.1 h) h2⟩
    · exact ⟨by omega, fun _ => by omega⟩
theorem wtF_low {f : Fm} (h : f.nodes ≤ 100) : wtF f ≤ 199 := by
  obtain ⟨h1, h2⟩ := wtF_le f
  by_cases h0 : f.args = []
  · have : wtF f = 2 := by rw [wtF_eq, h0]; rfl
    omega
  · have := h2 h0; omega
theorem wtL_ins (x : Fm) (l : List Fm) : wtL (insF x l) ≤ wtF x + wtL l := by
  induction l with
  | nil => unfold insF; rw [wtL_cons]; omega
  | cons y l ih =>
    unfold insF
    split
    · rw [wtL_cons, wtL_cons]; omega
    · split
      · rw [wtL_cons]; omega
      · rw [wtL_cons]; omega
theorem wtL_fold (l : List Fm) : ∀ a, wtL (l.foldl (fun a x => insF x a) a) ≤ wtL a + wtL l := by
  induction l with
  | nil => intro a; simp
  | cons x l ih =>
    intro a
    have h1 := ih (insF x a)
    have h2 := wtL_ins x a
    rw [List.foldl_cons, wtL_cons]
    omega
theorem wtL_filter (p : Fm → Bool) (l : List Fm) : wtL (l.filter p) ≤ wtL l := by
  induction l with
  | nil => simp
  | cons x l ih =>
    rw [List.filter_cons]
    split
    · rw [wtL_cons, wtL_cons]; omega
    · rw [wtL_cons]; omega
theorem wt_norm {o : Int} (ho : gath o) (s : List Fm) : wtF (normF o s) ≤ 2 + wtL s ∧ (1 ≤ wtL s → wtF (normF o s) ≤ 1 + wtL s) := by
  have hu : wtF (unitF o) = 2 := by rcases ho with rfl | rfl <;> rw [wtF_eq] <;> rfl
  have hz : wtF (nullF o) = 2 := by rcases ho with rfl | rfl <;> rw [wtF_eq] <;> rfl
  unfold normF
  by_cases hb : badL s (nullF o)
  · rw [settle_bad hb]
    show wtF (nullF o) ≤ _ ∧ (_ → wtF (nullF o) ≤ _)
    exact ⟨by omega, fun _ => by omega⟩
  · have h1 : wtL (settleF s (unitF o) (nullF o)) ≤ wtL s := by
      rw [settle_good hb]
      have h2 := wtL_filter (fun x => !decide (cmpF x (unitF o) = 0)) (setF s)
      have h3 := wtL_fold s []
      rw [wtL_nil] at h3
      unfold setF at h2 ⊢
      omega
    generalize settleF s (unitF o) (nullF o) = r at h1
    match r, h1 with
    | [], _ => show wtF (unitF o) ≤ _ ∧ (_ → wtF (unitF o) ≤ _); exact ⟨by omega, fun _ => by omega⟩
    | [x], h1 => rw [wtL_cons, wtL_nil] at h1; show wtF x ≤ _ ∧ (_ → wtF x ≤ _); exact ⟨by omega, fun _ => by omega⟩
    | x :: y :: r, h1 =>
      have : wtF (mkOp o (x :: y :: r)) = 1 + wtL (x :: y :: r) := by rw [wtF_eq]; rfl
      show wtF (mkOp o (x :: y :: r)) ≤ _ ∧ (_ → wtF (mkOp o (x :: y :: r)) ≤ _)
      rw [this]
      exact ⟨by omega, fun _ => by omega⟩
theorem wt_flat (o : Int) (l : List Fm) : wtL (flatF o l) ≤ wtL l := by
  induction l with
  | nil => rw [flatF_nil]; exact Nat.le_refl _
  | cons x l ih =>
    rw [flatF_cons, wtL_append, wtL_cons]
    have : wtL (flat1 o x) ≤ wtF x := by
      unfold flat1
      split
      · have := wtF_ge x; omega
      · rw [wtL_cons, wtL_nil]; omega
    omega
/-- how large the negation is -/
theorem neg_size (f : Fm) : NK f → (formP f true).nodes ≤ wtF f ∧ (formP f true).depth ≤ f.depth + 1 := by
  induction f using Fm.ind with
  | h f ih =>
    intro h
    rcases h.ops with h4 | hp
    · obtain ⟨x, hx, h3, hk, -, -⟩ := dF_not h h4
      rw [form_not h4 hx]
      show (formP x false).nodes ≤ _ ∧ (formP x false).depth ≤ _
      rw [(form_is h3).2]
      have h0 := is_args hk.node h3
      have e1 : x.nodes = 1 := by rw [Fm.nodes_eq, h0, Fm.nodesL_nil]
      have e2 : x.depth = 1 := by rw [Fm.depth_eq, h0, Fm.depthL_nil]
      have := wtF_ge f
      have := f.depth_pos
      omega
    · by_cases h3 : f.op = 3
      · rw [(form_is h3).1]
        have h0 := is_args h.node h3
        have e1 : f.nodes = 1 := by rw [Fm.nodes_eq, h0, Fm.nodesL_nil]
        have e2 : wtF f = 2 := by rw [wtF_eq, h0]; rfl
        rw [nodes_mkOp, depth_mkOp, Fm.nodesL_cons, Fm.nodesL_nil, Fm.depthL_cons, Fm.depthL_nil]
        omega
      · rw [form_neg h.node hp h3, Fm.nodes_eq, Fm.depth_eq]
        show 1 + Fm.nodesL (f.args.map fun x => formP x true) ≤ _ ∧ Fm.depthL (f.args.map fun x => formP x true) + 1 ≤ _
        have h1 := wtF_ge f
        have hl : ∀ l : List Fm, (∀ g ∈ l, (formP g true).nodes ≤ wtF g) → Fm.nodesL (l.map fun x => formP x true) ≤ wtL l := by
          intro l
          induction l with
          | nil => intro _; rw [List.map_nil, Fm.nodesL_nil]; omega
          | cons x l ihl => intro h; rw [List.map_cons, wtL_cons, Fm.nodesL_cons]; have h1 := h x (by simp); have h2 := ihl fun g hg => h g (by simp [hg]); omega
        have h2 := hl f.args fun g hg => (ih g hg (h.arg hg)).1
        have h3' : Fm.depthL (f.args.map fun x => formP x true) ≤ Fm.depthL f.args + 1 := depthL_le.2 fun X hX => by
          obtain ⟨x, hx, rfl⟩ := List.mem_map.1 hX
          have := (ih x hx (h.arg hx)).2
          have := depthL_le.1 (Nat.le_refl _) x hx
          omega
        rw [Fm.depth_eq f]
        omega
theorem loose_NK {f : Fm} (h : looseB f = true) : NK f := ⟨(loose_parts.1 h).2.2.1, (loose_parts.1 h).2.2.2.1⟩
theorem neg_loose {f : Fm} (h : looseB f = true) (h1 : wtF f ≤ 400) (h2 : f.depth ≤ 59) : notF f = formP f true ∧ looseB (formP f true) = true := by
  obtain ⟨h3, h4⟩ := neg_size f (loose_NK h)
  have hn : (formP f true).nodes ≤ 400 := by omega
  have hd : (formP f true).depth ≤ 60 := by omega
  obtain ⟨c1, c2⟩ := form_core (loose_NK h).1 true
  exact ⟨if_pos ⟨h, hn, hd⟩, loose_parts.2 ⟨hn, hd, c1, c2, form_lay (loose_NK h).1 (loose_parts.1 h).2.2.2.2 true⟩⟩
theorem low_neg {f : Fm} (h : LowP f) : notF f = formP f true ∧ looseB (formP f true) = true ∧ (formP f true).nodes ≤ 199 ∧ (formP f true).depth ≤ 51 := by
  obtain ⟨h1, h2, h3⟩ := h
  have hw := wtF_low h2
  obtain ⟨n1, n2⟩ := neg_loose h1 (by omega) (by omega)
  obtain ⟨h4, h5⟩ := neg_size f (loose_NK h1)
  exact ⟨n1, n2, by omega, by omega⟩
/-- the negation's canonical form is that of the canonical form's negation -/
theorem dual_one {f : Fm} (h : LowP f) : canonTop (notF f) = canonTop (notF (canonTop f)) := by
  obtain ⟨n1, n2, -, -⟩ := low_neg h
  obtain ⟨h1, h2, h3⟩ := h
  have hk := loose_NK h1
  have c1 := nodes_canonF f hk.1
  have c2 := depth_canonF f hk.1
  obtain ⟨m1, m2, -, -⟩ := low_neg (f := canonF f) ⟨loose_canonF h1, by omega, by omega⟩
  rw [canonTop_loose h1, n1, m1, canonTop_loose n2, canonTop_loose m2]
  exact (dual_canon f hk (by omega)).symm
/-- negations turn conjunctions into disjunctions, and the other way -/
theorem dual_two {o : Int} (ho : gath o) {f g : Fm} (hf : LowP f) (hg : LowP g) : canonTop (notF (combineF o [f, g])) = combineF (fDual o.toNat) [notF f, notF g] := by
  obtain ⟨a1, a2, a3, a4⟩ := low_neg hf
  obtain ⟨b1, b2, b3, b4⟩ := low_neg hg
  obtain ⟨f1, f2, f3⟩ := hf
  obtain ⟨g1, g2, g3⟩ := hg
  obtain ⟨e, q1, q2, q3, q4⟩ := comb_two ho f1 g1 (by omega) (by omega) (by omega)
  have kf := loose_NK f1
  have kg := loose_NK g1
  have cf := kf.canon (f := f) (by omega)
  have cg := kg.canon (f := g) (by omega)
  have canf := can_canonF f kf.1 kf.2
  have cang := can_canonF g kg.1 kg.2
  have hs : gives o f ++ gives o g = flatF o [canonF f, canonF g] := by simp only [flatF_cons, flatF_nil, List.append_nil]; rfl
  have hw : wtF (combineF o [f, g]) ≤ 400 := by
    rw [e, hs]
    have w1 := (wt_norm ho (flatF o [canonF f, canonF g])).1
    have w2 := wt_flat o [canonF f, canonF g]
    have w3 := wtF_low (f := canonF f) (Nat.le_trans (nodes_canonF f kf.1) f2)
    have w4 := wtF_low (f := canonF g) (Nat.le_trans (nodes_canonF g kg.1) g2)
    simp only [wtL_cons, wtL_nil] at w2
    omega
  obtain ⟨n1, n2⟩ := neg_loose q1 hw (by omega)
  have hd := (gath_dual ho).1
  rw [n1, canonTop_loose n2]
  show dF (combineF o [f, g]) = _
  have hall : ∀ c ∈ [canonF f, canonF g], NK c ∧ Can c := fun c hc => by
    simp only [List.mem_cons, List.not_mem_nil, or_false] at hc
    rcases hc with rfl | rfl
    · exact ⟨cf, canf⟩
    · exact ⟨cg, cang⟩
  rw [e, hs, dual_norm ho fun x hx => ⟨?_, flatF_can ho (fun c hc => (hall c hc).2) x hx⟩]
  · have h1 := dual_flat ho [canonF f, canonF g] [] (fun c hc => (hall c hc).1) (fun x hx => by cases hx)
    rw [List.append_nil, List.append_nil] at h1
    rw [← h1]
    simp only [List.map_cons, List.map_nil]
    rw [dual_canon f kf (by omega), dual_canon g kg (by omega)]
    rw [a1, b1, (comb_eq hd (l := [formP f true, formP g true]) (fun x hx => by
      simp only [List.mem_cons, List.not_mem_nil, or_false] at hx
      rcases hx with rfl | rfl <;> assumption) (by simp only [Fm.nodesL_cons, Fm.nodesL_nil]; omega) (by simp only [Fm.depthL_cons, Fm.depthL_nil]; omega)).1]
    rfl
  · obtain ⟨c, hc, ⟨-, h5⟩ | ⟨-, rfl⟩⟩ := mem_flatF.1 hx
    · exact (hall c hc).1.arg h5
    · exact (hall x hc).1

end Go.Proofs.YtlkoacopknolnaaGreatDoor
