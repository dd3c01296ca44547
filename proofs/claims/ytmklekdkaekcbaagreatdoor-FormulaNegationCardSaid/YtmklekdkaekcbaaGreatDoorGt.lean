/-
  Contracts that FormulaOrder stands on, part Gt.
-/
import Derived.Test.YtmklekdkaekcbaaGreatDoorFmG
import Derived.Test.YtmklekdkaekcbaaGreatDoorGg
import Derived.Test.YtmklekdkaekcbaaGreatDoorGj
import Derived.Test.YtmklekdkaekcbaaGreatDoorGr
import Derived.Test.YtmklekdkaekcbaaGreatDoorGp
import Derived.Test.YtmklekdkaekcbaaGreatDoorGe

/-
  The form of a form: signs multiply; forms are loose kernels but for their size.
-/
namespace Go.Proofs.YtmklekdkaekcbaaGreatDoor

theorem nodeB_made {o v : Int} {l : List Fm} (hk : 1 ≤ o ∧ o ≤ 19) (h3 : o ≠ 3) (hv : 0 ≤ v ∧ v ≤ fVal o.toNat) (hl : fLeast o.toNat ≤ l.length ∧ (l.length : Int) ≤ fMost o.toNat) : nodeB (.mk o ⟨#[]⟩ v 0 l) = true := by
  unfold nodeB nameOkB btwB
  simp only [Bool.and_eq_true, decide_eq_true_eq]
  show (((knownB o = true ∧ (if fNamed o.toNat then nameB ⟨#[]⟩ else (⟨#[]⟩ : ByteArray).toList.isEmpty) = true) ∧ 0 ≤ v ∧ v ≤ fVal o.toNat) ∧ (0 : Int) ≤ 0 ∧ 0 ≤ fBound o.toNat) ∧ fLeast o.toNat ≤ (l.length : Int) ∧ (l.length : Int) ≤ fMost o.toNat
  have hn : fNamed o.toNat = false := by
    rcases op_cases hk with e | e | e | e | e | e | e | e | e | e | e | e | e | e | e | e | e | e | e <;> subst e <;> first | rfl | exact (h3 rfl).elim
  have hb : 0 ≤ fBound o.toNat := by
    rcases op_cases hk with e | e | e | e | e | e | e | e | e | e | e | e | e | e | e | e | e | e | e <;> subst e <;> decide
  refine ⟨⟨⟨⟨(knownB_iff _).2 hk, ?_⟩, hv⟩, Int.le_refl _, hb⟩, hl⟩
  rw [hn]
  simp [ByteArray.toList_eq]

/-- the form of a node with an operator of kernels, both signs -/
theorem form_plain {f : Fm} (hn : nodeB f = true) (hp : plainOp f.op) (h3 : f.op ≠ 3) (n : Bool) :
    formP f n = .mk (if n then fDual f.op.toNat else f.op) ⟨#[]⟩ (if n then (if fTense f.op.toNat = 1 then 1 - f.val else 0) else f.val) 0 (f.args.map fun x => formP x n) := by
  obtain ⟨h1, -, -, h4, h5, -, -⟩ := nodeB_flds hn
  cases n
  · have e3 : f.bound = 0 := by
      rcases hp with e | e | e | e | e | e | e | e | e | e | e <;> rw [e] at h5 <;> simp [fBound, formRow, formsRows] at h5 <;> omega
    rw [form_pos hn hp, h1 h3, e3]; rfl
  · rw [form_neg hn hp h3]; rfl

theorem plain_facts {o : Int} (hp : plainOp o) (h3 : o ≠ 3) : plainOp (fDual o.toNat) ∧ fDual o.toNat ≠ 3 ∧ fDual (fDual o.toNat).toNat = o ∧ fTense (fDual o.toNat).toNat = fTense o.toNat ∧ fLeast (fDual o.toNat).toNat = fLeast o.toNat ∧ fMost (fDual o.toNat).toNat = fMost o.toNat ∧ fVal (fDual o.toNat).toNat = fVal o.toNat ∧ (fTense o.toNat = 1 → fVal o.toNat = 1) ∧ (fTense o.toNat ≠ 1 → fVal o.toNat = 0) := by
  rcases hp with rfl | rfl | rfl | rfl | rfl | rfl | rfl | rfl | rfl | rfl | rfl <;> first | exact (h3 rfl).elim | (unfold plainOp; decide)

/-- a made node of kernels is well-formed -/
theorem node_plain {f : Fm} (hn : nodeB f = true) (hp : plainOp f.op) (h3 : f.op ≠ 3) (n : Bool) : nodeB (formP f n) = true ∧ plainOp (formP f n).op ∧ (formP f n).op ≠ 3 := by
  obtain ⟨-, h2, h3', -, -, h6, h7⟩ := nodeB_flds hn
  obtain ⟨g1, g2, g3, g4, g5, g6, g7, g8, g9⟩ := plain_facts hp h3
  rw [form_plain hn hp h3]
  have hr : ∀ {o : Int}, plainOp o → 1 ≤ o ∧ o ≤ 19 := by intro o h; unfold plainOp at h; omega
  cases n
  · exact ⟨nodeB_made (hr hp) h3 ⟨h2, h3'⟩ (by rw [List.length_map]; exact ⟨h6, h7⟩), hp, h3⟩
  · refine ⟨nodeB_made (hr g1) g2 ?_ (by rw [List.length_map]; exact ⟨by simpa [g5] using h6, by simpa [g6] using h7⟩), g1, g2⟩
    simp only [if_true]
    rw [g7]
    split
    · next ht => have := g8 ht; omega
    · next ht => have := g9 ht; omega

theorem form_rep (o : Int) (ho : o = 5 ∨ o = 6) (x : Fm) (m : Bool) : ∀ n : Nat, formP (repF o n x) m = repF (if m then dualN o else o) n (formP x m)
  | 0 => rfl
  | n + 1 => by
    have ih := form_rep o ho x m n
    rcases ho with rfl | rfl <;> cases m <;> simp [repF, mkOp, formP, formPL, formN, dualN] at ih ⊢ <;> exact ih

/-- signs multiply -/
theorem form_form (f : Fm) : nodesB f = true → ∀ n m, formP (formP f n) m = formP f (n != m) := by
  induction f using Fm.ind with
  | h f ih =>
    intro hf n m
    have hn := nodesB_self hf
    have harg : ∀ x ∈ f.args, ∀ n m, formP (formP x n) m = formP x (n != m) := fun x hx => ih x hx (nodesB_arg hf hx)
    rcases op_parts (nodeB_known hn) with hp | h4 | hs
    · by_cases h3 : f.op = 3
      · obtain ⟨e1, e2⟩ := form_is h3
        have e4 : ∀ m, formP (mkOp 4 [f]) m = formP f (!m) := fun m => form_not (f := mkOp 4 [f]) rfl rfl m
        cases n <;> cases m <;> simp [e1, e2, e4]
      · obtain ⟨q1, q2, q3⟩ := node_plain hn hp h3 n
        obtain ⟨g1, g2, g3, g4, g5, g6, g7, g8, g9⟩ := plain_facts hp h3
        obtain ⟨-, h2, h3', -, -, -, -⟩ := nodeB_flds hn
        have eo : (formP f n).op = if n then fDual f.op.toNat else f.op := by rw [form_plain hn hp h3 n]; rfl
        have ev : (formP f n).val = if n then (if fTense f.op.toNat = 1 then 1 - f.val else 0) else f.val := by rw [form_plain hn hp h3 n]; rfl
        have ea : (formP f n).args = f.args.map fun x => formP x n := by rw [form_plain hn hp h3 n]; rfl
        rw [form_plain q1 q2 q3 m, form_plain hn hp h3 (n != m), eo, ev, ea, List.map_map]
        have hmap : f.args.map ((fun x => formP x m) ∘ fun x => formP x n) = f.args.map fun x => formP x (n != m) := List.map_congr_left fun x hx => harg x hx n m
        rw [hmap]
        cases n <;> cases m <;> simp [g3, g4]
        split
        · omega
        · next ht => have := g9 ht; omega
    · obtain ⟨x, hx⟩ := args_one_of hn (by rw [h4]; rfl) (by rw [h4]; rfl)
      rw [form_not h4 hx, form_not h4 hx, harg x (by rw [hx]; simp)]
      cases n <;> cases m <;> rfl
    · obtain ⟨o, nm, v, b, a⟩ := f
      simp only [Fm.op, Fm.args] at hs harg
      rcases hs with rfl | rfl | rfl | rfl | rfl | rfl | rfl
      · obtain ⟨x, y, rfl⟩ := args_two_of hn (by rfl) (by rfl)
        have hx := harg x (by simp)
        have hy := harg y (by simp)
        cases n <;> cases m <;> simp [mkOp, formP, formPL, formN, dualN, hx, hy]
      · obtain ⟨x, rfl⟩ := said_one hn (by simp [Fm.op])
        have hx := harg x (by simp)
        cases n <;> cases m <;> simp [mkOp, formP, formPL, formN, dualN, hx]
      · obtain ⟨x, rfl⟩ := said_one hn (by simp [Fm.op])
        have hx := harg x (by simp)
        cases n <;> cases m <;> simp [mkOp, formP, formPL, formN, dualN, hx]
      · obtain ⟨x, rfl⟩ := said_one hn (by simp [Fm.op])
        have hx := harg x (by simp)
        cases n <;> cases m <;> simp [formP, formPL, formN, form_rep, dualN, hx]
      · obtain ⟨x, rfl⟩ := said_one hn (by simp [Fm.op])
        have hx := harg x (by simp)
        cases n <;> cases m <;> simp [formP, formPL, formN, form_rep, dualN, hx]
      · obtain ⟨x, rfl⟩ := said_one hn (by simp [Fm.op])
        have hx := harg x (by simp)
        cases n <;> cases m <;> simp [mkOp, mkLate, formP, formPL, formN, dualN, hx]
      · obtain ⟨x, rfl⟩ := said_one hn (by simp [Fm.op])
        have hx := harg x (by simp)
        cases n <;> cases m <;> simp [mkOp, mkLate, formP, formPL, formN, dualN, hx]

/-- what holds of the leaves and goes up through nodes of kernels holds of forms; a node of the form is late, or of the future, only if the node that it comes from is -/
theorem form_all {C D : Fm → Prop} (cd : ∀ f, D f → ∀ x ∈ f.args, D x) (c0 : ∀ f, D f → nodeB f = true → f.op = 3 → C f ∧ C (mkOp 4 [f]))
    (c1 : ∀ f F, D f → nodeB F = true → plainOp F.op → F.op ≠ 3 → (lateB F.op = true → lateB f.op = true ∧ ∀ X ∈ F.args, (∃ x ∈ f.args, ∃ n, X = formP x n) ∨ X = mkOp 1 [] ∨ X = mkOp 2 []) → (futB F.op = true → futB f.op = true) → (∀ X ∈ F.args, C X) → C F) (f : Fm) : nodesB f = true → D f → ∀ n, C (formP f n) := by
  induction f using Fm.ind with
  | h f ih =>
    intro hf hd n
    have hn := nodesB_self hf
    have harg : ∀ x ∈ f.args, ∀ n, C (formP x n) := fun x hx => ih x hx (nodesB_arg hf hx) (cd f hd x hx)
    have two : ∀ {o v : Int} {X Y : Fm}, (o = 5 ∨ o = 6 ∨ o = 9 ∨ o = 10 ∨ o = 16 ∨ o = 17) → (v = 0 ∨ (v = 1 ∧ o = 17)) → (o = 16 ∨ o = 17 → lateB f.op = true ∧ (∃ y ∈ f.args, ∃ n, Y = formP y n) ∧ (X = mkOp 1 [] ∨ X = mkOp 2 [])) → (o = 9 ∨ o = 10 → futB f.op = true) → C X → C Y → C (.mk o ⟨#[]⟩ v 0 [X, Y]) := by
      intro o v x y ho hv hl hu hx hy
      refine c1 f _ hd (nodeB_made (by omega) (by omega) ?_ ?_) (by unfold plainOp; simp only [Fm.op]; omega) (by simp only [Fm.op]; omega) ?_ ?_ (by intro z hz; simp only [Fm.args, List.mem_cons, List.not_mem_nil, or_false] at hz; rcases hz with rfl | rfl <;> assumption)
      · rcases ho with rfl | rfl | rfl | rfl | rfl | rfl <;> rcases hv with rfl | ⟨rfl, hv⟩ <;> first | (cases hv; done) | decide
      · rcases ho with rfl | rfl | rfl | rfl | rfl | rfl <;> simp [fLeast, fMost, formRow, formsRows]
      · intro hlate
        have h16 : o = 16 ∨ o = 17 := by change lateB o = true at hlate; simp [lateB] at hlate; omega
        obtain ⟨l1, l2, l3⟩ := hl h16
        refine ⟨l1, fun z hz => ?_⟩
        simp only [Fm.args, List.mem_cons, List.not_mem_nil, or_false] at hz
        rcases hz with rfl | rfl
        · exact .inr l3
        · exact .inl l2
      · intro hfut
        exact hu (by change futB o = true at hfut; simp [futB] at hfut; omega)
    have none : ∀ {o : Int}, (o = 1 ∨ o = 2) → C (mkOp o []) := by
      intro o ho
      refine c1 f _ hd (nodeB_made (by omega) (by omega) ?_ ?_) (by unfold plainOp; simp only [mkOp, Fm.op]; omega) (by simp only [mkOp, Fm.op]; omega) ?_ ?_ (by intro z hz; cases hz)
      · rcases ho with rfl | rfl <;> decide
      · rcases ho with rfl | rfl <;> simp [fLeast, fMost, formRow, formsRows]
      · intro h; change lateB o = true at h; simp [lateB] at h; omega
      · intro h; change futB o = true at h; simp [futB] at h; omega
    have next : ∀ {x : Fm}, futB f.op = true → C x → C (mkOp 8 [x]) := by
      intro x hu hx
      exact c1 f _ hd (nodeB_made (by omega) (by omega) (by decide) (by simp [fLeast, fMost, formRow, formsRows])) (by simp [plainOp, mkOp, Fm.op]) (by simp [mkOp, Fm.op]) (by intro h; simp [mkOp, lateB, Fm.op] at h) (fun _ => hu) (by intro z hz; simp only [mkOp, Fm.args, List.mem_cons, List.not_mem_nil, or_false] at hz; subst hz; exact hx)
    have rep : ∀ {o : Int} {x : Fm}, (o = 5 ∨ o = 6) → futB f.op = true → C x → ∀ n, C (repF o n x) := by
      intro o x ho hu hx n
      induction n with
      | zero => exact hx
      | succ n ih => exact two (by omega) (.inl rfl) (by omega) (by omega) hx (next hu ih)
    rcases op_parts (nodeB_known hn) with hp | h4 | hs
    · by_cases h3 : f.op = 3
      · obtain ⟨e1, e2⟩ := form_is h3
        cases n
        · rw [e2]; exact (c0 f hd hn h3).1
        · rw [e1]; exact (c0 f hd hn h3).2
      · obtain ⟨q1, q2, q3⟩ := node_plain hn hp h3 n
        have eo : (formP f n).op = if n then fDual f.op.toNat else f.op := by rw [form_plain hn hp h3 n]; rfl
        have ea : (formP f n).args = f.args.map fun x => formP x n := by rw [form_plain hn hp h3 n]; rfl
        have hfl : lateB (formP f n).op = lateB f.op ∧ futB (formP f n).op = futB f.op := by
          rw [eo]
          rcases hp with e | e | e | e | e | e | e | e | e | e | e <;> rw [e] <;> cases n <;> decide
        refine c1 f _ hd q1 q2 q3 (fun h => ⟨by rw [← hfl.1]; exact h, fun X hX => ?_⟩) (fun h => by rw [← hfl.2]; exact h) fun X hX => ?_
        · rw [ea] at hX
          obtain ⟨y, hy, rfl⟩ := List.mem_map.1 hX
          exact .inl ⟨y, hy, n, rfl⟩
        · rw [ea] at hX
          obtain ⟨y, hy, rfl⟩ := List.mem_map.1 hX
          exact harg y hy n
    · obtain ⟨x, hx⟩ := args_one_of hn (by rw [h4]; rfl) (by rw [h4]; rfl)
      rw [form_not h4 hx]
      exact harg x (by rw [hx]; simp) _
    · obtain ⟨o, nm, v, b, a⟩ := f
      simp only [Fm.op, Fm.args] at hs harg
      rcases hs with rfl | rfl | rfl | rfl | rfl | rfl | rfl
      · obtain ⟨x, y, rfl⟩ := args_two_of hn (by rfl) (by rfl)
        have hx := harg x (by simp)
        have hy := harg y (by simp)
        cases n <;> simp only [formP, formPL, formN] <;> exact two (by omega) (.inl rfl) (by omega) (by omega) (hx _) (hy _)
      · obtain ⟨x, rfl⟩ := said_one hn (by simp [Fm.op])
        have hx := harg x (by simp)
        cases n <;> exact two (by omega) (.inl rfl) (by omega) (fun _ => rfl) (none (by omega)) (hx _)
      · obtain ⟨x, rfl⟩ := said_one hn (by simp [Fm.op])
        have hx := harg x (by simp)
        cases n <;> exact two (by omega) (.inl rfl) (by omega) (fun _ => rfl) (none (by omega)) (hx _)
      · obtain ⟨x, rfl⟩ := said_one hn (by simp [Fm.op])
        have hx := harg x (by simp)
        cases n <;> exact rep (by omega) rfl (hx _) _
      · obtain ⟨x, rfl⟩ := said_one hn (by simp [Fm.op])
        have hx := harg x (by simp)
        cases n <;> exact rep (by omega) rfl (hx _) _
      · obtain ⟨x, rfl⟩ := said_one hn (by simp [Fm.op])
        have hx := harg x (by simp)
        cases n
        · exact two (by omega) (.inl rfl) (fun _ => ⟨rfl, ⟨x, by simp [Fm.args], _, rfl⟩, .inl rfl⟩) (by omega) (none (by omega)) (hx _)
        · exact two (by omega) (.inr ⟨rfl, rfl⟩) (fun _ => ⟨rfl, ⟨x, by simp [Fm.args], _, rfl⟩, .inr rfl⟩) (by omega) (none (by omega)) (hx _)
      · obtain ⟨x, rfl⟩ := said_one hn (by simp [Fm.op])
        have hx := harg x (by simp)
        cases n
        · exact two (by omega) (.inr ⟨rfl, rfl⟩) (fun _ => ⟨rfl, ⟨x, by simp [Fm.args], _, rfl⟩, .inr rfl⟩) (by omega) (none (by omega)) (hx _)
        · exact two (by omega) (.inl rfl) (fun _ => ⟨rfl, ⟨x, by simp [Fm.args], _, rfl⟩, .inl rfl⟩) (by omega) (none (by omega)) (hx _)

/-- forms are well-formed, of the operators of kernels -/
theorem form_core {f : Fm} (h : nodesB f = true) (n : Bool) : nodesB (formP f n) = true ∧ coreB (formP f n) = true := by
  refine form_all (C := fun F => nodesB F = true ∧ coreB F = true) (D := fun _ => True) (fun _ _ _ _ => trivial) ?_ ?_ f h trivial n
  · intro f _ hn h3
    obtain ⟨-, -, -, -, -, -, h7⟩ := nodeB_flds hn
    have h0 : f.args = [] := List.eq_nil_of_length_eq_zero (by rw [h3] at h7; have : fMost (3 : Int).toNat = 0 := rfl; omega)
    have h1 : nodesB f = true := nodes_mk hn (by rw [h0]; intro x hx; cases hx)
    have h2 : coreB f = true := Fm.all_mk (by simp [coreNodeB, coreOpB, btwB, h3]) (by rw [h0]; intro x hx; cases hx)
    refine ⟨⟨h1, h2⟩, nodes_one (.inl rfl) h1, Fm.all_mk ?_ ?_⟩
    · simp [coreNodeB, coreOpB, btwB, mkOp, Fm.op, arg0, Fm.args]; cases f; exact h3
    · intro x hx; simp only [mkOp, Fm.args, List.mem_cons, List.not_mem_nil, or_false] at hx; subst hx; exact h2
  · intro f F _ hn hp h3 _ _ ha
    refine ⟨nodes_mk hn fun x hx => (ha x hx).1, Fm.all_mk ?_ fun x hx => (ha x hx).2⟩
    rcases hp with e | e | e | e | e | e | e | e | e | e | e <;> simp [coreNodeB, coreOpB, btwB, e]

theorem form_past {f : Fm} (h : nodesB f = true) (hp : pastB f = true) (n : Bool) : pastB (formP f n) = true := by
  refine form_all (C := fun F => pastB F = true) (D := fun f => pastB f = true) (fun _ h _ hx => Fm.all_arg h hx) ?_ ?_ f h hp n
  · intro f _ hn h3
    obtain ⟨-, -, -, -, -, -, h7⟩ := nodeB_flds hn
    have h0 : f.args = [] := List.eq_nil_of_length_eq_zero (by rw [h3] at h7; have : fMost (3 : Int).toNat = 0 := rfl; omega)
    have h2 : pastB f = true := Fm.all_mk (by simp [futB, h3]) (by rw [h0]; intro x hx; cases hx)
    refine ⟨h2, Fm.all_mk (by simp [mkOp, futB, Fm.op]) ?_⟩
    intro x hx; simp only [mkOp, Fm.args, List.mem_cons, List.not_mem_nil, or_false] at hx; subst hx; exact h2
  · intro f F hd _ _ _ _ hu ha
    refine Fm.all_mk ?_ ha
    cases e : futB F.op
    · rfl
    · have h1 := hu e
      have h2 := Fm.all_self (p := fun g => !futB g.op) hd
      simp [h1] at h2

theorem form_lay {f : Fm} (h : nodesB f = true) (hp : layB f = true) (n : Bool) : layB (formP f n) = true := by
  refine form_all (C := fun F => layB F = true) (D := fun f => layB f = true ∧ nodesB f = true) (fun _ h _ hx => ⟨Fm.all_arg h.1 hx, nodesB_arg h.2 hx⟩) ?_ ?_ f h ⟨hp, h⟩ n
  · intro f _ hn h3
    obtain ⟨-, -, -, -, -, -, h7⟩ := nodeB_flds hn
    have h0 : f.args = [] := List.eq_nil_of_length_eq_zero (by rw [h3] at h7; have : fMost (3 : Int).toNat = 0 := rfl; omega)
    have h2 : layB f = true := Fm.all_mk (by simp [lateB, h3]) (by rw [h0]; intro x hx; cases hx)
    refine ⟨h2, Fm.all_mk (by simp [mkOp, lateB, Fm.op]) ?_⟩
    intro x hx; simp only [mkOp, Fm.args, List.mem_cons, List.not_mem_nil, or_false] at hx; subst hx; exact h2
  · intro f F hd _ _ _ hl _ ha
    refine Fm.all_mk ?_ ha
    cases e : lateB F.op
    · rfl
    · obtain ⟨h1, h2⟩ := hl e
      have h3 := Fm.all_self (p := fun g => !lateB g.op || g.args.all pastB) hd.1
      simp only [h1, Bool.not_true, Bool.false_or, List.all_eq_true] at h3 ⊢
      intro X hX
      rcases h2 X hX with ⟨x, hx, m, rfl⟩ | rfl | rfl
      · exact form_past (nodesB_arg hd.2 hx) (h3 x hx) m
      · rfl
      · rfl

/-- a formula of the operators of kernels is its own positive form -/
theorem form_self (f : Fm) : nodesB f = true → coreB f = true → formP f false = f := by
  induction f using Fm.ind with
  | h f ih =>
    intro hf hc
    have hn := nodesB_self hf
    have hc0 := Fm.all_self (p := coreNodeB) hc
    have harg : ∀ x ∈ f.args, formP x false = x := fun x hx => ih x hx (nodesB_arg hf hx) (Fm.all_arg hc hx)
    rcases op_parts (nodeB_known hn) with hp | h4 | hs
    · rw [form_pos hn hp]
      have : f.args.map (fun x => formP x false) = f.args := by
        rw [List.map_congr_left harg, List.map_id']
      rw [this]; cases f; rfl
    · obtain ⟨x, hx⟩ := args_one_of hn (by rw [h4]; rfl) (by rw [h4]; rfl)
      have h3 : x.op = 3 := by simpa [coreNodeB, coreOpB, btwB, h4, arg0, hx] using hc0
      rw [form_not h4 hx, Bool.not_false, (form_is h3).1]
      obtain ⟨h1, g2, g3, g4, g5, -, -⟩ := nodeB_flds hn
      obtain ⟨o, nm, v, b, a⟩ := f
      simp only [Fm.op, Fm.name, Fm.val, Fm.bound, Fm.args] at *
      subst h4 hx
      have e1 := h1 (by decide)
      have e2 : v = 0 := by simp [fVal, formRow, formsRows] at g3; omega
      have e3 : b = 0 := by simp [fBound, formRow, formsRows] at g5; omega
      rw [e1, e2, e3]; rfl
    · exfalso
      rcases hs with e | e | e | e | e | e | e <;> simp [coreNodeB, coreOpB, btwB, e] at hc0

end Go.Proofs.YtmklekdkaekcbaaGreatDoor

/-
  The names of a form; a kernel is its own kernel.
-/
namespace Go.Proofs.YtmklekdkaekcbaaGreatDoor

/-- no node has the name -/
def noB (x : ByteArray) (f : Fm) : Bool := !(f.op == 3 && f.name.toList == x.toList)

theorem all_nodesP (q : Fm → Bool) (f : Fm) : ∀ d p, (∀ y ∈ nodesP f d p, q y.1 = true) ↔ f.all q = true := by
  induction f using Fm.ind with
  | h f ih =>
    intro d p
    have hl : ∀ (l : List Fm), (∀ g ∈ l, ∀ d p, (∀ y ∈ nodesP g d p, q y.1 = true) ↔ g.all q = true) → ∀ d p, (∀ y ∈ nodesPL l d p, q y.1 = true) ↔ ∀ g ∈ l, g.all q = true := by
      intro l
      induction l with
      | nil => intro _ d p; rw [nodesPL_nil]; simp
      | cons g l ih2 =>
        intro h d p
        rw [nodesPL_cons]
        have h1 := h g (List.mem_cons_self ..) d p
        have h2 := ih2 (fun z hz => h z (List.mem_cons_of_mem _ hz)) d p
        simp only [List.mem_append, List.mem_cons, forall_eq_or_imp]
        rw [← h1, ← h2]
        exact ⟨fun h => ⟨fun y hy => h y (.inl hy), fun y hy => h y (.inr hy)⟩, fun h y hy => hy.elim (h.1 y) (h.2 y)⟩
    rw [nodesP_eq, Fm.all_eq, Bool.and_eq_true, List.all_eq_true, ← hl f.args ih (d + 1) (p || lateB f.op)]
    simp

theorem mem_names_all {f : Fm} {x : ByteArray} : x ∈ namesF f ↔ f.all (noB x) = false := by
  rw [mem_namesF]
  have h := all_nodesP (noB x) f 1 false
  constructor
  · rintro ⟨y, hy, h1, h2⟩
    cases e : f.all (noB x)
    · rfl
    · have := h.2 e y hy
      simp [noB, h1, h2] at this
  · intro e
    refine Classical.byContradiction fun hne => ?_
    have : f.all (noB x) = true := h.1 fun y hy => by
      cases e2 : noB x y.1
      · refine (hne ⟨y, hy, ?_⟩).elim
        simp only [noB, Bool.not_eq_false', Bool.and_eq_true] at e2
        exact ⟨by simpa using e2.1, beq_toList.1 e2.2⟩
      · rfl
    rw [e] at this; cases this

theorem named_arg {x : ByteArray} {f g : Fm} (h : f.all (noB x) = true) (hg : g ∈ f.args) : g.all (noB x) = true := Fm.all_arg h hg
theorem no_mk {x : ByteArray} {o : Int} {n : ByteArray} {v b : Int} {l : List Fm} (h3 : o ≠ 3) : (Fm.mk o n v b l).all (noB x) = true ↔ ∀ g ∈ l, g.all (noB x) = true := by
  rw [Fm.all_eq, Bool.and_eq_true, List.all_eq_true]
  have : noB x (Fm.mk o n v b l) = true := by
    have : (o == 3) = false := beq_eq_false_iff_ne.2 h3
    show (!((o == 3) && _)) = true
    rw [this]; rfl
  exact ⟨fun h => h.2, fun h => ⟨this, h⟩⟩
theorem no_rep {x : ByteArray} {o : Int} (ho : o = 5 ∨ o = 6) (f : Fm) : ∀ n : Nat, (repF o n f).all (noB x) = true ↔ f.all (noB x) = true
  | 0 => Iff.rfl
  | n + 1 => by
    have ih := no_rep (x := x) ho f n
    rw [repF, mkOp, no_mk (by omega)]
    simp only [List.mem_cons, List.not_mem_nil, or_false, forall_eq_or_imp, forall_eq]
    rw [mkOp, no_mk (by omega)]
    simp [ih]

/-- a form has the names of the formula -/
theorem no_form (x : ByteArray) (f : Fm) : nodesB f = true → ∀ n, (formP f n).all (noB x) = true ↔ f.all (noB x) = true := by
  induction f using Fm.ind with
  | h f ih =>
    intro hf n
    have hn := nodesB_self hf
    have harg : ∀ y ∈ f.args, ∀ n, (formP y n).all (noB x) = true ↔ y.all (noB x) = true := fun y hy => ih y hy (nodesB_arg hf hy)
    have hc : ∀ o n b v, o ≠ (3 : Int) → ((Fm.mk o n b v []).all (noB x) = true) := fun o n b v ho => (no_mk ho).2 (by intro g hg; cases hg)
    rcases op_parts (nodeB_known hn) with hp | h4 | hs
    · by_cases h3 : f.op = 3
      · obtain ⟨e1, e2⟩ := form_is h3
        cases n
        · rw [e2]
        · rw [e1, mkOp, no_mk (by omega)]; simp
      · obtain ⟨g1, g2, -⟩ := plain_facts hp h3
        rw [form_plain hn hp h3 n, no_mk (by split <;> assumption)]
        obtain ⟨o, nm, v, b, a⟩ := f
        rw [no_mk (show o ≠ 3 from h3)]
        simp only [Fm.args] at harg ⊢
        exact ⟨fun h y hy => (harg y hy n).1 (h _ (List.mem_map.2 ⟨y, hy, rfl⟩)), fun h Y hY => by obtain ⟨y, hy, rfl⟩ := List.mem_map.1 hY; exact (harg y hy n).2 (h y hy)⟩
    · obtain ⟨y, hy⟩ := args_one_of hn (by rw [h4]; rfl) (by rw [h4]; rfl)
      rw [form_not h4 hy, harg y (by rw [hy]; simp)]
      obtain ⟨o, nm, v, b, a⟩ := f
      simp only [Fm.op, Fm.args] at h4 hy
      subst h4 hy
      rw [no_mk (by omega)]; simp
    · obtain ⟨o, nm, v, b, a⟩ := f
      simp only [Fm.op, Fm.args] at hs harg
      rcases hs with rfl | rfl | rfl | rfl | rfl | rfl | rfl
      · obtain ⟨y, z, rfl⟩ := args_two_of hn (by rfl) (by rfl)
        have hy := harg y (by simp)
        have hz := harg z (by simp)
        cases n <;> simp [mkOp, formP, formPL, formN, no_mk, hy, hz]
      · obtain ⟨y, rfl⟩ := said_one hn (by simp [Fm.op])
        have hy := harg y (by simp)
        cases n <;> simp [mkOp, formP, formPL, formN, no_mk, hy]
      · obtain ⟨y, rfl⟩ := said_one hn (by simp [Fm.op])
        have hy := harg y (by simp)
        cases n <;> simp [mkOp, formP, formPL, formN, no_mk, hy]
      · obtain ⟨y, rfl⟩ := said_one hn (by simp [Fm.op])
        have hy := harg y (by simp)
        cases n <;> simp [formP, formPL, formN, no_mk, no_rep, hy]
      · obtain ⟨y, rfl⟩ := said_one hn (by simp [Fm.op])
        have hy := harg y (by simp)
        cases n <;> simp [formP, formPL, formN, no_mk, no_rep, hy]
      · obtain ⟨y, rfl⟩ := said_one hn (by simp [Fm.op])
        have hy := harg y (by simp)
        cases n <;> simp [mkOp, mkLate, formP, formPL, formN, no_mk, hy]
      · obtain ⟨y, rfl⟩ := said_one hn (by simp [Fm.op])
        have hy := harg y (by simp)
        cases n <;> simp [mkOp, mkLate, formP, formPL, formN, no_mk, hy]

theorem names_form {f : Fm} (h : nodesB f = true) (n : Bool) : namesF (formP f n) = namesF f := by
  refine ascN_unique (namesF_asc _) (namesF_asc _) fun x => ?_
  rw [mem_names_all, mem_names_all, ← Bool.not_eq_true, ← Bool.not_eq_true, no_form x f h n]

theorem fvalid_parts {f : Fm} : fvalidB f = true ↔ f.nodes ≤ 60 ∧ f.depth ≤ 20 ∧ nodesB f = true := by
  unfold fvalidB; simp [and_assoc]
theorem loose_parts {f : Fm} : looseB f = true ↔ f.nodes ≤ 400 ∧ f.depth ≤ 60 ∧ nodesB f = true ∧ coreB f = true ∧ layB f = true := by
  unfold looseB; simp [and_assoc]

/-- the kernel of a kernel; its names; of a formula that is one -/
theorem kernel_facts {f : Fm} (hv : fvalidB f = true) (hl : layB f = true) :
    ((formP f false).nodes ≤ 60 ∧ (formP f false).depth ≤ 20 → kernelF f = (formP f false, 0) ∧ kernelF (formP f false) = (formP f false, 0) ∧ kernelB (formP f false) = true) ∧
    (¬ ((formP f false).nodes ≤ 60 ∧ (formP f false).depth ≤ 20) → kernelF f = (zeroF, 2) ∧ kernelB f = false) ∧ namesF (formP f false) = namesF f ∧ (kernelB f = true → formP f false = f) := by
  obtain ⟨v1, v2, v3⟩ := fvalid_parts.1 hv
  obtain ⟨c1, c2⟩ := form_core v3 false
  have l1 := form_lay v3 hl false
  have hk : kernelB f = true → formP f false = f := fun h => by
    unfold kernelB at h
    rw [Bool.and_eq_true, loose_parts] at h
    exact form_self f v3 h.1.2.2.2.1
  refine ⟨fun h => ?_, fun h => ?_, names_form v3 false, hk⟩
  · have w1 : fvalidB (formP f false) = true := fvalid_parts.2 ⟨h.1, h.2, c1⟩
    have e : formP (formP f false) false = formP f false := form_form f v3 false false
    refine ⟨?_, ?_, ?_⟩
    · unfold kernelF; rw [if_pos ⟨hv, hl⟩, if_pos h]
    · unfold kernelF; rw [if_pos ⟨w1, l1⟩, e, if_pos h]
    · unfold kernelB
      rw [w1, loose_parts.2 ⟨by omega, by omega, c1, c2, l1⟩]; rfl
  · refine ⟨?_, ?_⟩
    · unfold kernelF; rw [if_pos ⟨hv, hl⟩, if_neg h]
    · rw [← Bool.not_eq_true]
      intro hk'
      rw [hk hk'] at h
      exact h ⟨v1, v2⟩

/-- negation: twice; and of a kernel -/
theorem not_not {f : Fm} (hl : looseB f = true) (h : (notF f).op ≠ 0) : notF (notF f) = f := by
  obtain ⟨a1, a2, a3, a4, a5⟩ := loose_parts.1 hl
  unfold notF at h
  split at h
  · next hc =>
    have e : notF f = formP f true := by unfold notF; rw [if_pos hc]
    obtain ⟨c1, c2⟩ := form_core a3 true
    have e2 : formP (formP f true) true = f := by rw [form_form f a3 true true]; exact form_self f a3 a4
    rw [e]
    unfold notF
    rw [e2, if_pos ⟨loose_parts.2 ⟨hc.2.1, hc.2.2, c1, c2, form_lay a3 a5 true⟩, a1, a2⟩]
  · exact (h rfl).elim

theorem kernel_not {f : Fm} (h1 : (kernelF f).2 = 0) (h2 : (kernelF (mkOp 4 [f])).2 = 0) : (kernelF (mkOp 4 [f])).1 = notF (kernelF f).1 := by
  have k1 : (fvalidB f = true ∧ layB f = true) ∧ (formP f false).nodes ≤ 60 ∧ (formP f false).depth ≤ 20 := by
    unfold kernelF at h1
    split at h1
    · split at h1
      · exact ⟨by assumption, by assumption⟩
      · cases h1
    · cases h1
  have k2 : (fvalidB (mkOp 4 [f]) = true ∧ layB (mkOp 4 [f]) = true) ∧ (formP (mkOp 4 [f]) false).nodes ≤ 60 ∧ (formP (mkOp 4 [f]) false).depth ≤ 20 := by
    unfold kernelF at h2
    split at h2
    · split at h2
      · exact ⟨by assumption, by assumption⟩
      · cases h2
    · cases h2
  have e4 : formP (mkOp 4 [f]) false = formP f true := form_not (f := mkOp 4 [f]) rfl rfl false
  obtain ⟨v1, v2, v3⟩ := fvalid_parts.1 k1.1.1
  obtain ⟨c1, c2⟩ := form_core v3 false
  have e1 : kernelF f = (formP f false, 0) := by unfold kernelF; rw [if_pos k1.1, if_pos k1.2]
  have e2 : kernelF (mkOp 4 [f]) = (formP f true, 0) := by unfold kernelF; rw [if_pos k2.1, if_pos k2.2, e4]
  have e3 : formP (formP f false) true = formP f true := form_form f v3 false true
  rw [e4] at k2
  rw [e1, e2]
  show formP f true = notF (formP f false)
  unfold notF
  rw [e3, if_pos ⟨loose_parts.2 ⟨by omega, by omega, c1, c2, form_lay v3 k1.1.2 false⟩, by omega, by omega⟩]

end Go.Proofs.YtmklekdkaekcbaaGreatDoor

/-
  The walk of the law FormulaNegation, given the contract of the law's head.
-/
namespace Go.Proofs.YtmklekdkaekcbaaGreatDoor
open Go.RowKit

theorem not_small (f : Fm) : (notF f).nodes ≤ 400 := by
  unfold notF
  split
  · next h => exact h.2.1
  · decide
theorem kernel_small (f : Fm) : (kernelF f).1.nodes ≤ 60 := by
  unfold kernelF
  split
  · split
    · next h => exact h.1
    · decide
  · decide

/-- a formula in a box of its own -/
theorem box_new (w : World) (g : Fm) (o : Option Addr) (c : Nat) : ∃ W, Hid (w.alloc (.cells #[.int .i64 g.op, .string g.name, .int .i64 g.val, .int .i64 g.bound, .slice o g.args.length c] 24) = W) ∧ Below w.heap.size w W ∧ W.heap.size = w.heap.size + 1 ∧ Hid (Cells5 W w.heap.size 0 (.int .i64 g.op) (.string g.name) (.int .i64 g.val) (.int .i64 g.bound) (.slice o g.args.length c)) :=
  ⟨_, hidi rfl, below_box _ _, by simp, box5 w _ _ _ _ _ 24⟩

set_option maxRecDepth 100000 in
set_option maxHeartbeats 4000000 in
theorem neg_big (hd : HeadOk) (f : Fm) (v1 : Value) (w : World) (hE : Env w) (h1 : FAt w.heap.size w v1 f) (s1 : Hid (¬ f.nodes ≤ 420)) :
    Calls Tryz.prog 7 #[v1] w fun e w' => e = .returned (.bool true) ∧ Below w.heap.size w w' := by
  obtain ⟨o1, c1, rfl, -, hA1⟩ := h1.open
  obtain ⟨W0, hW0, hB0, hc, hlt⟩ := fm_open w (.int .i64 f.op) (.string f.name) (.int .i64 f.val) (.int .i64 f.bound) (.slice o1 f.args.length c1)
  have hE0 : Env W0 := hE.below hB0
  go_enter Tryz.func7, Tryz.ntmps7
  go_wp2_with fail
  rw [hW0.out]
  refine (hd _ hE0).mono ?_
  rintro e w1 ⟨rfl, hb1⟩
  obtain ⟨d0, d1, d2, d3, d4⟩ := hc.out.later hb1 hlt
  rw [Nat.zero_add] at d1 d2 d3 d4
  have hB1 := hB0.trans (hb1.mono hB0.size)
  go_wp2_with fail
  refine (small420_no f w.heap.size _ _ (h1.kept hB1 (Nat.le_refl _)) hB1.size s1).mono ?_
  rintro e w2 ⟨rfl, hb2⟩
  have hB2 := hB1.trans (hb2.mono hB1.size)
  go_wp2_with fail
  go_ret
  exact ⟨rfl, hB2⟩

set_option maxRecDepth 100000 in
set_option maxHeartbeats 8000000 in
theorem neg_tight (hd : HeadOk) (f : Fm) (v1 : Value) (w : World) (hE : Env w) (h1 : FAt w.heap.size w v1 f) (s1 : Hid (f.nodes ≤ 420)) (hlb : Hid (looseB f = false)) :
    Calls Tryz.prog 7 #[v1] w fun e w' => e = .returned (.bool true) ∧ Below w.heap.size w w' := by
  obtain ⟨o1, c1, rfl, -, hA1⟩ := h1.open
  obtain ⟨W0, hW0, hB0, hc, hlt⟩ := fm_open w (.int .i64 f.op) (.string f.name) (.int .i64 f.val) (.int .i64 f.bound) (.slice o1 f.args.length c1)
  have hE0 : Env W0 := hE.below hB0
  go_enter Tryz.func7, Tryz.ntmps7
  go_wp2_with fail
  rw [hW0.out]
  refine (hd _ hE0).mono ?_
  rintro e w1 ⟨rfl, hb1⟩
  obtain ⟨d0, d1, d2, d3, d4⟩ := hc.out.later hb1 hlt
  rw [Nat.zero_add] at d1 d2 d3 d4
  have hB1 := hB0.trans (hb1.mono hB0.size)
  go_wp2_with fail
  refine (small420 f w.heap.size _ _ (h1.kept hB1 (Nat.le_refl _)) hB1.size s1).mono ?_
  rintro e w2 ⟨rfl, hb2⟩
  have hB2 := hB1.trans (hb2.mono hB1.size)
  clear d0 d1 d2 d3 d4
  obtain ⟨d0, d1, d2, d3, d4⟩ := hc.out.later (hb1.trans (hb2.mono hb1.size)) hlt
  rw [Nat.zero_add] at d1 d2 d3 d4
  go_wp2_with fail
  refine (refloose_any f w.heap.size _ _ (h1.kept hB2 (Nat.le_refl _)) hB2.size).mono ?_
  rintro e w3 ⟨rfl, hb3⟩
  rw [hlb.out]
  have hB3 := hB2.trans (hb3.mono hB2.size)
  have hb03 := (hb1.trans (hb2.mono hb1.size)).trans (hb3.mono (hb1.trans (hb2.mono hb1.size)).size)
  clear d0 d1 d2 d3 d4
  obtain ⟨d0, d1, d2, d3, d4⟩ := hc.out.later hb03 hlt
  rw [Nat.zero_add] at d1 d2 d3 d4
  go_wp2_with fail
  have hP0 : ∀ b, b < w.heap.size → b < w3.heap.size := fun b hb => Nat.lt_of_lt_of_le hb hB3.size
  refine (kernel_any (· < w.heap.size) f _ w3 (hE.below hB3) (h1.kept hB3 (Nat.le_refl _)) hP0 (by have := s1.out; omega)).mono ?_
  rintro e wk ⟨rk, rfl, hK, hbk⟩
  obtain ⟨ek, hek⟩ : ∃ x, Hid ((kernelF f).2 = x) := ⟨_, hidi rfl⟩
  obtain ⟨k, hk⟩ : ∃ x, Hid ((kernelF f).1 = x) := ⟨_, hidi rfl⟩
  rw [hk.out] at hK
  rw [hek.out]
  obtain ⟨ok, ck, rfl, hfk, hAk⟩ := hK.open
  have hBk := hB3.trans (hbk.mono hB3.size)
  have hb0k := hb03.trans (hbk.mono hb03.size)
  obtain ⟨WK, hWK, hBK, hzK, hcK⟩ := box_new wk k ok ck
  have hBK' := hBk.trans (hBK.mono hBk.size)
  have hb0K := hb0k.trans (hBK.mono hb0k.size)
  clear d0 d1 d2 d3 d4
  obtain ⟨d0, d1, d2, d3, d4⟩ := hc.out.later hb0K hlt
  rw [Nat.zero_add] at d1 d2 d3 d4
  rw [← hWK.out] at d0 d1 d2 d3 d4
  go_wp2_with fail
  rw [hWK.out]
  refine (refone_any (· < w.heap.size) 4 _ f WK (h1.kept hBK' (Nat.le_refl _)) (fun b hb => Nat.lt_of_lt_of_le hb hBK'.size) (by decide)).mono ?_
  rintro e wo ⟨ro, rfl, hO, hbo⟩
  have hBo := hBK'.trans (hbo.mono hBK'.size)
  go_wp2_with fail
  refine (kernel_any (NewP (· < w.heap.size) WK wo) (mkOp 4 [f]) _ wo (hE.below hBo) hO (fun b hb => by have := hBo.size; rcases hb with hb | hb <;> omega) (by have := s1.out; have := (mkOp 4 [f]).nodes_eq; simp only [mkOp, Fm.args, Fm.nodesL_cons, Fm.nodesL_nil] at this; simp only [mkOp]; omega)).mono ?_
  rintro e wm ⟨rm, rfl, hM, hbm⟩
  obtain ⟨em, hem⟩ : ∃ x, Hid ((kernelF (mkOp 4 [f])).2 = x) := ⟨_, hidi rfl⟩
  obtain ⟨m, hm⟩ : ∃ x, Hid ((kernelF (mkOp 4 [f])).1 = x) := ⟨_, hidi rfl⟩
  rw [hm.out] at hM
  rw [hem.out]
  obtain ⟨om, cm, rfl, hfm, hAm⟩ := hM.open
  have hBm := hBo.trans (hbm.mono hBo.size)
  obtain ⟨WM, hWM, hBM, hzM, hcM⟩ := box_new wm m om cm
  have hBM' := hBm.trans (hBM.mono hBm.size)
  have hKM : Below WK.heap.size WK WM := (hbo.trans (hbm.mono hbo.size)).trans (hBM.mono (hbo.trans (hbm.mono hbo.size)).size)
  have hzk := hKM.size
  have hD : Below WM.heap.size WM WM.drew := (Below.refl _ WM).drew
  have hSB : Hid (∀ W, Below WM.heap.size WM W → W.cell? ⟨wk.heap.size, 0, none⟩ = some (.int .i64 k.op) ∧ W.cell? ⟨wk.heap.size, 1, none⟩ = some (.string k.name) ∧ W.cell? ⟨wk.heap.size, 2, none⟩ = some (.int .i64 k.val) ∧ W.cell? ⟨wk.heap.size, 3, none⟩ = some (.int .i64 k.bound) ∧ W.cell? ⟨wk.heap.size, 4, none⟩ = some (.slice ok k.args.length ck) ∧ W.cell? ⟨wm.heap.size, 0, none⟩ = some (.int .i64 m.op) ∧ W.cell? ⟨wm.heap.size, 1, none⟩ = some (.string m.name) ∧ W.cell? ⟨wm.heap.size, 2, none⟩ = some (.int .i64 m.val) ∧ W.cell? ⟨wm.heap.size, 3, none⟩ = some (.int .i64 m.bound) ∧ W.cell? ⟨wm.heap.size, 4, none⟩ = some (.slice om m.args.length cm)) := by
    intro W hB
    obtain ⟨a0, a1, a2, a3, a4⟩ := hcK.out.below (hKM.trans (hB.mono hKM.size)) (by omega)
    obtain ⟨b0, b1, b2, b3, b4⟩ := hcM.out.below hB (by omega)
    rw [Nat.zero_add] at a1 a2 a3 a4 b1 b2 b3 b4
    exact ⟨a0, a1, a2, a3, a4, b0, b1, b2, b3, b4⟩
  have hk0 : Hid (WM.drew.cell? ⟨wk.heap.size, 0, none⟩ = some (.int .i64 k.op) ∧ WM.drew.cell? ⟨wk.heap.size, 1, none⟩ = some (.string k.name) ∧ WM.drew.cell? ⟨wk.heap.size, 2, none⟩ = some (.int .i64 k.val) ∧ WM.drew.cell? ⟨wk.heap.size, 3, none⟩ = some (.int .i64 k.bound) ∧ WM.drew.cell? ⟨wk.heap.size, 4, none⟩ = some (.slice ok k.args.length ck) ∧ WM.drew.cell? ⟨wm.heap.size, 0, none⟩ = some (.int .i64 m.op) ∧ WM.drew.cell? ⟨wm.heap.size, 1, none⟩ = some (.string m.name) ∧ WM.drew.cell? ⟨wm.heap.size, 2, none⟩ = some (.int .i64 m.val) ∧ WM.drew.cell? ⟨wm.heap.size, 3, none⟩ = some (.int .i64 m.bound) ∧ WM.drew.cell? ⟨wm.heap.size, 4, none⟩ = some (.slice om m.args.length cm)) := hSB.out _ hD
  have hk1 : Hid (∀ W, Below WM.drew.heap.size WM.drew W → W.cell? ⟨wk.heap.size, 0, none⟩ = some (.int .i64 k.op) ∧ W.cell? ⟨wk.heap.size, 1, none⟩ = some (.string k.name) ∧ W.cell? ⟨wk.heap.size, 2, none⟩ = some (.int .i64 k.val) ∧ W.cell? ⟨wk.heap.size, 3, none⟩ = some (.int .i64 k.bound) ∧ W.cell? ⟨wk.heap.size, 4, none⟩ = some (.slice ok k.args.length ck) ∧ W.cell? ⟨wm.heap.size, 0, none⟩ = some (.int .i64 m.op) ∧ W.cell? ⟨wm.heap.size, 1, none⟩ = some (.string m.name) ∧ W.cell? ⟨wm.heap.size, 2, none⟩ = some (.int .i64 m.val) ∧ W.cell? ⟨wm.heap.size, 3, none⟩ = some (.int .i64 m.bound) ∧ W.cell? ⟨wm.heap.size, 4, none⟩ = some (.slice om m.args.length cm)) := fun W hB => hSB.out _ (hD.trans hB)
  go_wp2_with fail
  rw [hWM.out]
  by_cases ze : ek = 0
  · by_cases zm : em = 0
    · subst ze zm
      have heq : Hid (m = notF k) := by unfold Hid; rw [← hk.out, ← hm.out]; exact kernel_not hek.out hem.out
      have hkn : k.nodes ≤ 60 := by rw [← hk.out]; exact kernel_small f
      have hBkM : Below wk.heap.size wk WM := hBK.trans (hKM.mono hBK.size)
      have hzkM := hBkM.size
      have hzwm := hBM.size
      have hAk' : FAtP (· < WM.heap.size) WM.drew (.agg #[.int .i64 k.op, .string k.name, .int .i64 k.val, .int .i64 k.bound, .slice ok k.args.length ck]) k :=
        FAtP.mono (hK.kept hBkM.drew (fun b hb => hb.elim (fun h => Nat.lt_of_lt_of_le h hBk.size) (fun h => h.2))) (fun b hb => hb.elim (fun h => Nat.lt_of_lt_of_le h hBM'.size) (fun h => Nat.lt_of_lt_of_le h.2 hBkM.size))
      have hAm' : FAtP (· < WM.heap.size) WM.drew (.agg #[.int .i64 m.op, .string m.name, .int .i64 m.val, .int .i64 m.bound, .slice om m.args.length cm]) m :=
        FAtP.mono (hM.kept hBM.drew (fun b hb => by have h1 := hBm.size; have h2 := hBo.size; have h3 := hbm.size; rcases hb with (hb | hb) | hb <;> omega)) (fun b hb => by have h1 := hBm.size; have h2 := hBo.size; have h3 := hbm.size; rcases hb with (hb | hb) | hb <;> omega)
      have hC1 := hidi (not_any (· < WM.heap.size) k _ WM.drew (hE.below hBM'.drew) hAk' (fun b hb => hb) (by omega))
      have hC2 : Hid (∀ W r, Below WM.drew.heap.size WM.drew W → FAtP (NewP (· < WM.heap.size) WM.drew W) W r (notF k) → Calls Tryz.prog 19 #[.agg #[.int .i64 m.op, .string m.name, .int .i64 m.val, .int .i64 m.bound, .slice om m.args.length cm], r] W fun e w' => e = .returned (.int .i64 0) ∧ Below W.heap.size W w') := by
        intro W r hB hr
        have hs := hB.size
        have := compare_any m (notF k) W.heap.size _ r W (FAtP.mono (hAm'.kept hB fun b hb => hb) fun b hb => Nat.lt_of_lt_of_le hb hs) (hr.mono fun b hb => hb.elim (fun h => Nat.lt_of_lt_of_le h hs) (fun h => h.2)) (Nat.le_refl _)
        rw [heq.out, (good_fm (notF k)).refl] at this
        rw [← heq.out] at this
        exact this
      go_region_held3 (fun X => X.cell? ⟨wk.heap.size, 0, none⟩ = some (.int .i64 k.op) ∧ X.cell? ⟨wk.heap.size, 1, none⟩ = some (.string k.name) ∧ X.cell? ⟨wk.heap.size, 2, none⟩ = some (.int .i64 k.val) ∧ X.cell? ⟨wk.heap.size, 3, none⟩ = some (.int .i64 k.bound) ∧ X.cell? ⟨wk.heap.size, 4, none⟩ = some (.slice ok k.args.length ck) ∧ X.cell? ⟨wm.heap.size, 0, none⟩ = some (.int .i64 m.op) ∧ X.cell? ⟨wm.heap.size, 1, none⟩ = some (.string m.name) ∧ X.cell? ⟨wm.heap.size, 2, none⟩ = some (.int .i64 m.val) ∧ X.cell? ⟨wm.heap.size, 3, none⟩ = some (.int .i64 m.bound) ∧ X.cell? ⟨wm.heap.size, 4, none⟩ = some (.slice om m.args.length cm))
        (first | with_reducible exact hk0.out | with_reducible exact hk1.out _ hb9 | with_reducible exact hk1.out _ hb8.out)
        (first | (go_at_call 33; (with_reducible refine hC1.out.mono ?_); rintro e w4 ⟨r4, rfl, hN4, hb9⟩; have hN4' := hidi hN4; have hb9' := hidi hb9) | (go_at_call 19; (with_reducible refine (hC2.out _ _ hb9'.out hN4'.out).mono ?_); rintro e w5 ⟨rfl, hb5⟩; have hb8 := hidi (hb9'.out.trans (hb5.mono hb9'.out.size))))
      go_wp2_with fail
      go_ret
      exact ⟨rfl, hBM'.drew.trans (hb8.out.mono hBM'.drew.size)⟩
    · have zm' : (em != 0) = true := bne_iff_ne.2 zm
      subst ze
      clear hk0 hk1 hSB
      go_quiet (fail)
      go_wp2_with fail
      go_ret
      exact ⟨rfl, below_drewN hBM' _⟩
  · have ze' : (ek != 0) = true := bne_iff_ne.2 ze
    clear hk0 hk1 hSB
    go_quiet (fail)
    go_wp2_with fail
    go_ret
    exact ⟨rfl, below_drewN hBM' _⟩

set_option maxRecDepth 100000 in
set_option maxHeartbeats 8000000 in
theorem neg_none (hd : HeadOk) (f : Fm) (v1 : Value) (w : World) (hE : Env w) (h1 : FAt w.heap.size w v1 f) (s1 : Hid (f.nodes ≤ 420)) (hlb : Hid (looseB f = true)) (n : Fm) (hn : Hid (notF f = n)) (hz0 : Hid ((n.op != 0) = false)) :
    Calls Tryz.prog 7 #[v1] w fun e w' => e = .returned (.bool true) ∧ Below w.heap.size w w' := by
  obtain ⟨o1, c1, rfl, -, hA1⟩ := h1.open
  obtain ⟨W0, hW0, hB0, hc, hlt⟩ := fm_open w (.int .i64 f.op) (.string f.name) (.int .i64 f.val) (.int .i64 f.bound) (.slice o1 f.args.length c1)
  have hE0 : Env W0 := hE.below hB0
  go_enter Tryz.func7, Tryz.ntmps7
  go_wp2_with fail
  rw [hW0.out]
  refine (hd _ hE0).mono ?_
  rintro e w1 ⟨rfl, hb1⟩
  obtain ⟨d0, d1, d2, d3, d4⟩ := hc.out.later hb1 hlt
  rw [Nat.zero_add] at d1 d2 d3 d4
  have hB1 := hB0.trans (hb1.mono hB0.size)
  go_wp2_with fail
  refine (small420 f w.heap.size _ _ (h1.kept hB1 (Nat.le_refl _)) hB1.size s1).mono ?_
  rintro e w2 ⟨rfl, hb2⟩
  have hB2 := hB1.trans (hb2.mono hB1.size)
  clear d0 d1 d2 d3 d4
  obtain ⟨d0, d1, d2, d3, d4⟩ := hc.out.later (hb1.trans (hb2.mono hb1.size)) hlt
  rw [Nat.zero_add] at d1 d2 d3 d4
  go_wp2_with fail
  refine (refloose_any f w.heap.size _ _ (h1.kept hB2 (Nat.le_refl _)) hB2.size).mono ?_
  rintro e w3 ⟨rfl, hb3⟩
  rw [hlb.out]
  have hB3 := hB2.trans (hb3.mono hB2.size)
  have hb03 := (hb1.trans (hb2.mono hb1.size)).trans (hb3.mono (hb1.trans (hb2.mono hb1.size)).size)
  clear d0 d1 d2 d3 d4
  obtain ⟨d0, d1, d2, d3, d4⟩ := hc.out.later hb03 hlt
  rw [Nat.zero_add] at d1 d2 d3 d4
  go_wp2_with fail
  have hP3 : ∀ b, b < w.heap.size → b < w3.heap.size := fun b hb => Nat.lt_of_lt_of_le hb hB3.size
  refine (not_any (· < w.heap.size) f _ w3 (hE.below hB3) (h1.kept hB3 (Nat.le_refl _)) hP3 (by have := s1.out; omega)).mono ?_
  rintro e w4 ⟨rn, rfl, hN, hbn⟩
  have hnn : Hid (notF f = n) := hn
  rw [hnn.out] at hN
  obtain ⟨on, cn, rfl, hfn, hAn⟩ := hN.open
  have hB4 := hB3.trans (hbn.mono hB3.size)
  have hb04 := hb03.trans (hbn.mono hb03.size)
  obtain ⟨W5, hW5, hB5, hz5, hc5⟩ := box_new w4 n on cn
  have hB5' := hB4.trans (hB5.mono hB4.size)
  have hb05 := hb04.trans (hB5.mono hb04.size)
  have hn4 : n.nodes ≤ 400 := by rw [← hnn.out]; exact not_small f
  clear d0 d1 d2 d3 d4
  have hz := hz0.out
  go_wp2_with fail
  rw [hW5.out]
  obtain ⟨b0, b1, b2, b3, b4⟩ := hc5.out
  rw [Nat.zero_add] at b1 b2 b3 b4
  go_quiet (fail)
  obtain ⟨d0, d1, d2, d3, d4⟩ := hc.out.later (below_drewN hb05 nq) hlt
  rw [Nat.zero_add] at d1 d2 d3 d4
  have hB6 := below_drewN hB5' nq
  have hb06 := below_drewN hb05 nq
  go_wp2_with fail
  have hP0 : ∀ b, b < w.heap.size → b < (W5.drewN nq).heap.size := fun b hb => Nat.lt_of_lt_of_le hb hB6.size
  refine (kernel_any (· < w.heap.size) f _ (W5.drewN nq) (hE.below hB6) (h1.kept hB6 (Nat.le_refl _)) hP0 (by have := s1.out; omega)).mono ?_
  rintro e wk ⟨rk, rfl, hK, hbk⟩
  obtain ⟨ek, hek⟩ : ∃ x, Hid ((kernelF f).2 = x) := ⟨_, hidi rfl⟩
  obtain ⟨k, hk⟩ : ∃ x, Hid ((kernelF f).1 = x) := ⟨_, hidi rfl⟩
  rw [hk.out] at hK
  rw [hek.out]
  obtain ⟨ok, ck, rfl, hfk, hAk⟩ := hK.open
  have hBk := hB6.trans (hbk.mono hB6.size)
  have hb0k := hb06.trans (hbk.mono hb06.size)
  obtain ⟨WK, hWK, hBK, hzK, hcK⟩ := box_new wk k ok ck
  have hBK' := hBk.trans (hBK.mono hBk.size)
  have hb0K := hb0k.trans (hBK.mono hb0k.size)
  clear d0 d1 d2 d3 d4
  obtain ⟨d0, d1, d2, d3, d4⟩ := hc.out.later hb0K hlt
  rw [Nat.zero_add] at d1 d2 d3 d4
  rw [← hWK.out] at d0 d1 d2 d3 d4
  go_wp2_with fail
  rw [hWK.out]
  refine (refone_any (· < w.heap.size) 4 _ f WK (h1.kept hBK' (Nat.le_refl _)) (fun b hb => Nat.lt_of_lt_of_le hb hBK'.size) (by decide)).mono ?_
  rintro e wo ⟨ro, rfl, hO, hbo⟩
  have hBo := hBK'.trans (hbo.mono hBK'.size)
  go_wp2_with fail
  refine (kernel_any (NewP (· < w.heap.size) WK wo) (mkOp 4 [f]) _ wo (hE.below hBo) hO (fun b hb => by have := hBo.size; rcases hb with hb | hb <;> omega) (by have := s1.out; have := (mkOp 4 [f]).nodes_eq; simp only [mkOp, Fm.args, Fm.nodesL_cons, Fm.nodesL_nil] at this; simp only [mkOp]; omega)).mono ?_
  rintro e wm ⟨rm, rfl, hM, hbm⟩
  obtain ⟨em, hem⟩ : ∃ x, Hid ((kernelF (mkOp 4 [f])).2 = x) := ⟨_, hidi rfl⟩
  obtain ⟨m, hm⟩ : ∃ x, Hid ((kernelF (mkOp 4 [f])).1 = x) := ⟨_, hidi rfl⟩
  rw [hm.out] at hM
  rw [hem.out]
  obtain ⟨om, cm, rfl, hfm, hAm⟩ := hM.open
  have hBm := hBo.trans (hbm.mono hBo.size)
  obtain ⟨WM, hWM, hBM, hzM, hcM⟩ := box_new wm m om cm
  have hBM' := hBm.trans (hBM.mono hBm.size)
  have hKM : Below WK.heap.size WK WM := (hbo.trans (hbm.mono hbo.size)).trans (hBM.mono (hbo.trans (hbm.mono hbo.size)).size)
  have hzk := hKM.size
  have hD : Below WM.heap.size WM WM.drew := (Below.refl _ WM).drew
  have hSB : Hid (∀ W, Below WM.heap.size WM W → W.cell? ⟨wk.heap.size, 0, none⟩ = some (.int .i64 k.op) ∧ W.cell? ⟨wk.heap.size, 1, none⟩ = some (.string k.name) ∧ W.cell? ⟨wk.heap.size, 2, none⟩ = some (.int .i64 k.val) ∧ W.cell? ⟨wk.heap.size, 3, none⟩ = some (.int .i64 k.bound) ∧ W.cell? ⟨wk.heap.size, 4, none⟩ = some (.slice ok k.args.length ck) ∧ W.cell? ⟨wm.heap.size, 0, none⟩ = some (.int .i64 m.op) ∧ W.cell? ⟨wm.heap.size, 1, none⟩ = some (.string m.name) ∧ W.cell? ⟨wm.heap.size, 2, none⟩ = some (.int .i64 m.val) ∧ W.cell? ⟨wm.heap.size, 3, none⟩ = some (.int .i64 m.bound) ∧ W.cell? ⟨wm.heap.size, 4, none⟩ = some (.slice om m.args.length cm)) := by
    intro W hB
    obtain ⟨a0, a1, a2, a3, a4⟩ := hcK.out.below (hKM.trans (hB.mono hKM.size)) (by omega)
    obtain ⟨b0, b1, b2, b3, b4⟩ := hcM.out.below hB (by omega)
    rw [Nat.zero_add] at a1 a2 a3 a4 b1 b2 b3 b4
    exact ⟨a0, a1, a2, a3, a4, b0, b1, b2, b3, b4⟩
  have hk0 : Hid (WM.drew.cell? ⟨wk.heap.size, 0, none⟩ = some (.int .i64 k.op) ∧ WM.drew.cell? ⟨wk.heap.size, 1, none⟩ = some (.string k.name) ∧ WM.drew.cell? ⟨wk.heap.size, 2, none⟩ = some (.int .i64 k.val) ∧ WM.drew.cell? ⟨wk.heap.size, 3, none⟩ = some (.int .i64 k.bound) ∧ WM.drew.cell? ⟨wk.heap.size, 4, none⟩ = some (.slice ok k.args.length ck) ∧ WM.drew.cell? ⟨wm.heap.size, 0, none⟩ = some (.int .i64 m.op) ∧ WM.drew.cell? ⟨wm.heap.size, 1, none⟩ = some (.string m.name) ∧ WM.drew.cell? ⟨wm.heap.size, 2, none⟩ = some (.int .i64 m.val) ∧ WM.drew.cell? ⟨wm.heap.size, 3, none⟩ = some (.int .i64 m.bound) ∧ WM.drew.cell? ⟨wm.heap.size, 4, none⟩ = some (.slice om m.args.length cm)) := hSB.out _ hD
  have hk1 : Hid (∀ W, Below WM.drew.heap.size WM.drew W → W.cell? ⟨wk.heap.size, 0, none⟩ = some (.int .i64 k.op) ∧ W.cell? ⟨wk.heap.size, 1, none⟩ = some (.string k.name) ∧ W.cell? ⟨wk.heap.size, 2, none⟩ = some (.int .i64 k.val) ∧ W.cell? ⟨wk.heap.size, 3, none⟩ = some (.int .i64 k.bound) ∧ W.cell? ⟨wk.heap.size, 4, none⟩ = some (.slice ok k.args.length ck) ∧ W.cell? ⟨wm.heap.size, 0, none⟩ = some (.int .i64 m.op) ∧ W.cell? ⟨wm.heap.size, 1, none⟩ = some (.string m.name) ∧ W.cell? ⟨wm.heap.size, 2, none⟩ = some (.int .i64 m.val) ∧ W.cell? ⟨wm.heap.size, 3, none⟩ = some (.int .i64 m.bound) ∧ W.cell? ⟨wm.heap.size, 4, none⟩ = some (.slice om m.args.length cm)) := fun W hB => hSB.out _ (hD.trans hB)
  go_wp2_with fail
  rw [hWM.out]
  by_cases ze : ek = 0
  · by_cases zm : em = 0
    · subst ze zm
      have heq : Hid (m = notF k) := by unfold Hid; rw [← hk.out, ← hm.out]; exact kernel_not hek.out hem.out
      have hkn : k.nodes ≤ 60 := by rw [← hk.out]; exact kernel_small f
      have hBkM : Below wk.heap.size wk WM := hBK.trans (hKM.mono hBK.size)
      have hzkM := hBkM.size
      have hzwm := hBM.size
      have hAk' : FAtP (· < WM.heap.size) WM.drew (.agg #[.int .i64 k.op, .string k.name, .int .i64 k.val, .int .i64 k.bound, .slice ok k.args.length ck]) k :=
        FAtP.mono (hK.kept hBkM.drew (fun b hb => hb.elim (fun h => Nat.lt_of_lt_of_le h hBk.size) (fun h => h.2))) (fun b hb => hb.elim (fun h => Nat.lt_of_lt_of_le h hBM'.size) (fun h => Nat.lt_of_lt_of_le h.2 hBkM.size))
      have hAm' : FAtP (· < WM.heap.size) WM.drew (.agg #[.int .i64 m.op, .string m.name, .int .i64 m.val, .int .i64 m.bound, .slice om m.args.length cm]) m :=
        FAtP.mono (hM.kept hBM.drew (fun b hb => by have h1 := hBm.size; have h2 := hBo.size; have h3 := hbm.size; rcases hb with (hb | hb) | hb <;> omega)) (fun b hb => by have h1 := hBm.size; have h2 := hBo.size; have h3 := hbm.size; rcases hb with (hb | hb) | hb <;> omega)
      have hC1 := hidi (not_any (· < WM.heap.size) k _ WM.drew (hE.below hBM'.drew) hAk' (fun b hb => hb) (by omega))
      have hC2 : Hid (∀ W r, Below WM.drew.heap.size WM.drew W → FAtP (NewP (· < WM.heap.size) WM.drew W) W r (notF k) → Calls Tryz.prog 19 #[.agg #[.int .i64 m.op, .string m.name, .int .i64 m.val, .int .i64 m.bound, .slice om m.args.length cm], r] W fun e w' => e = .returned (.int .i64 0) ∧ Below W.heap.size W w') := by
        intro W r hB hr
        have hs := hB.size
        have := compare_any m (notF k) W.heap.size _ r W (FAtP.mono (hAm'.kept hB fun b hb => hb) fun b hb => Nat.lt_of_lt_of_le hb hs) (hr.mono fun b hb => hb.elim (fun h => Nat.lt_of_lt_of_le h hs) (fun h => h.2)) (Nat.le_refl _)
        rw [heq.out, (good_fm (notF k)).refl] at this
        rw [← heq.out] at this
        exact this
      go_region_held3 (fun X => X.cell? ⟨wk.heap.size, 0, none⟩ = some (.int .i64 k.op) ∧ X.cell? ⟨wk.heap.size, 1, none⟩ = some (.string k.name) ∧ X.cell? ⟨wk.heap.size, 2, none⟩ = some (.int .i64 k.val) ∧ X.cell? ⟨wk.heap.size, 3, none⟩ = some (.int .i64 k.bound) ∧ X.cell? ⟨wk.heap.size, 4, none⟩ = some (.slice ok k.args.length ck) ∧ X.cell? ⟨wm.heap.size, 0, none⟩ = some (.int .i64 m.op) ∧ X.cell? ⟨wm.heap.size, 1, none⟩ = some (.string m.name) ∧ X.cell? ⟨wm.heap.size, 2, none⟩ = some (.int .i64 m.val) ∧ X.cell? ⟨wm.heap.size, 3, none⟩ = some (.int .i64 m.bound) ∧ X.cell? ⟨wm.heap.size, 4, none⟩ = some (.slice om m.args.length cm))
        (first | with_reducible exact hk0.out | with_reducible exact hk1.out _ hb9 | with_reducible exact hk1.out _ hb8.out)
        (first | (go_at_call 33; (with_reducible refine hC1.out.mono ?_); rintro e w4 ⟨r4, rfl, hN4, hb9⟩; have hN4' := hidi hN4; have hb9' := hidi hb9) | (go_at_call 19; (with_reducible refine (hC2.out _ _ hb9'.out hN4'.out).mono ?_); rintro e w5 ⟨rfl, hb5⟩; have hb8 := hidi (hb9'.out.trans (hb5.mono hb9'.out.size))))
      go_wp2_with fail
      go_ret
      exact ⟨rfl, hBM'.drew.trans (hb8.out.mono hBM'.drew.size)⟩
    · have zm' : (em != 0) = true := bne_iff_ne.2 zm
      subst ze
      clear hk0 hk1 hSB
      go_quiet (fail)
      go_wp2_with fail
      go_ret
      exact ⟨rfl, below_drewN hBM' _⟩
  · have ze' : (ek != 0) = true := bne_iff_ne.2 ze
    clear hk0 hk1 hSB
    go_quiet (fail)
    go_wp2_with fail
    go_ret
    exact ⟨rfl, below_drewN hBM' _⟩

set_option maxRecDepth 100000 in
set_option maxHeartbeats 8000000 in
theorem neg_more (hd : HeadOk) (f : Fm) (v1 : Value) (w : World) (hE : Env w) (h1 : FAt w.heap.size w v1 f) (s1 : Hid (f.nodes ≤ 420)) (hlb : Hid (looseB f = true)) (n : Fm) (hn : Hid (notF f = n)) (hz0 : Hid ((n.op != 0) = true)) (hnn2 : Hid (notF n = f)) :
    Calls Tryz.prog 7 #[v1] w fun e w' => e = .returned (.bool true) ∧ Below w.heap.size w w' := by
  obtain ⟨o1, c1, rfl, -, hA1⟩ := h1.open
  obtain ⟨W0, hW0, hB0, hc, hlt⟩ := fm_open w (.int .i64 f.op) (.string f.name) (.int .i64 f.val) (.int .i64 f.bound) (.slice o1 f.args.length c1)
  have hE0 : Env W0 := hE.below hB0
  go_enter Tryz.func7, Tryz.ntmps7
  go_wp2_with fail
  rw [hW0.out]
  refine (hd _ hE0).mono ?_
  rintro e w1 ⟨rfl, hb1⟩
  obtain ⟨d0, d1, d2, d3, d4⟩ := hc.out.later hb1 hlt
  rw [Nat.zero_add] at d1 d2 d3 d4
  have hB1 := hB0.trans (hb1.mono hB0.size)
  go_wp2_with fail
  refine (small420 f w.heap.size _ _ (h1.kept hB1 (Nat.le_refl _)) hB1.size s1).mono ?_
  rintro e w2 ⟨rfl, hb2⟩
  have hB2 := hB1.trans (hb2.mono hB1.size)
  clear d0 d1 d2 d3 d4
  obtain ⟨d0, d1, d2, d3, d4⟩ := hc.out.later (hb1.trans (hb2.mono hb1.size)) hlt
  rw [Nat.zero_add] at d1 d2 d3 d4
  go_wp2_with fail
  refine (refloose_any f w.heap.size _ _ (h1.kept hB2 (Nat.le_refl _)) hB2.size).mono ?_
  rintro e w3 ⟨rfl, hb3⟩
  rw [hlb.out]
  have hB3 := hB2.trans (hb3.mono hB2.size)
  have hb03 := (hb1.trans (hb2.mono hb1.size)).trans (hb3.mono (hb1.trans (hb2.mono hb1.size)).size)
  clear d0 d1 d2 d3 d4
  obtain ⟨d0, d1, d2, d3, d4⟩ := hc.out.later hb03 hlt
  rw [Nat.zero_add] at d1 d2 d3 d4
  go_wp2_with fail
  have hP3 : ∀ b, b < w.heap.size → b < w3.heap.size := fun b hb => Nat.lt_of_lt_of_le hb hB3.size
  refine (not_any (· < w.heap.size) f _ w3 (hE.below hB3) (h1.kept hB3 (Nat.le_refl _)) hP3 (by have := s1.out; omega)).mono ?_
  rintro e w4 ⟨rn, rfl, hN, hbn⟩
  have hnn : Hid (notF f = n) := hn
  rw [hnn.out] at hN
  obtain ⟨on, cn, rfl, hfn, hAn⟩ := hN.open
  have hB4 := hB3.trans (hbn.mono hB3.size)
  have hb04 := hb03.trans (hbn.mono hb03.size)
  obtain ⟨W5, hW5, hB5, hz5, hc5⟩ := box_new w4 n on cn
  have hB5' := hB4.trans (hB5.mono hB4.size)
  have hb05 := hb04.trans (hB5.mono hb04.size)
  have hn4 : n.nodes ≤ 400 := by rw [← hnn.out]; exact not_small f
  have hD5 : Below W5.heap.size W5 W5.drew := (Below.refl _ W5).drew
  have hSB5 : Hid (∀ W, Below W5.heap.size W5 W → W.cell? ⟨w.heap.size, 0, none⟩ = some (.int .i64 f.op) ∧ W.cell? ⟨w.heap.size, 1, none⟩ = some (.string f.name) ∧ W.cell? ⟨w.heap.size, 2, none⟩ = some (.int .i64 f.val) ∧ W.cell? ⟨w.heap.size, 3, none⟩ = some (.int .i64 f.bound) ∧ W.cell? ⟨w.heap.size, 4, none⟩ = some (.slice o1 f.args.length c1) ∧ W.cell? ⟨w4.heap.size, 0, none⟩ = some (.int .i64 n.op) ∧ W.cell? ⟨w4.heap.size, 1, none⟩ = some (.string n.name) ∧ W.cell? ⟨w4.heap.size, 2, none⟩ = some (.int .i64 n.val) ∧ W.cell? ⟨w4.heap.size, 3, none⟩ = some (.int .i64 n.bound) ∧ W.cell? ⟨w4.heap.size, 4, none⟩ = some (.slice on n.args.length cn)) := by
    intro W hB
    obtain ⟨a0, a1, a2, a3, a4⟩ := hc.out.later (hb05.trans (hB.mono hb05.size)) hlt
    obtain ⟨b0, b1, b2, b3, b4⟩ := hc5.out.below hB (by omega)
    rw [Nat.zero_add] at a1 a2 a3 a4 b1 b2 b3 b4
    exact ⟨a0, a1, a2, a3, a4, b0, b1, b2, b3, b4⟩
  have hk50 : Hid (W5.drew.cell? ⟨w.heap.size, 0, none⟩ = some (.int .i64 f.op) ∧ W5.drew.cell? ⟨w.heap.size, 1, none⟩ = some (.string f.name) ∧ W5.drew.cell? ⟨w.heap.size, 2, none⟩ = some (.int .i64 f.val) ∧ W5.drew.cell? ⟨w.heap.size, 3, none⟩ = some (.int .i64 f.bound) ∧ W5.drew.cell? ⟨w.heap.size, 4, none⟩ = some (.slice o1 f.args.length c1) ∧ W5.drew.cell? ⟨w4.heap.size, 0, none⟩ = some (.int .i64 n.op) ∧ W5.drew.cell? ⟨w4.heap.size, 1, none⟩ = some (.string n.name) ∧ W5.drew.cell? ⟨w4.heap.size, 2, none⟩ = some (.int .i64 n.val) ∧ W5.drew.cell? ⟨w4.heap.size, 3, none⟩ = some (.int .i64 n.bound) ∧ W5.drew.cell? ⟨w4.heap.size, 4, none⟩ = some (.slice on n.args.length cn)) := hSB5.out _ hD5
  have hk51 : Hid (∀ W, Below W5.drew.heap.size W5.drew W → W.cell? ⟨w.heap.size, 0, none⟩ = some (.int .i64 f.op) ∧ W.cell? ⟨w.heap.size, 1, none⟩ = some (.string f.name) ∧ W.cell? ⟨w.heap.size, 2, none⟩ = some (.int .i64 f.val) ∧ W.cell? ⟨w.heap.size, 3, none⟩ = some (.int .i64 f.bound) ∧ W.cell? ⟨w.heap.size, 4, none⟩ = some (.slice o1 f.args.length c1) ∧ W.cell? ⟨w4.heap.size, 0, none⟩ = some (.int .i64 n.op) ∧ W.cell? ⟨w4.heap.size, 1, none⟩ = some (.string n.name) ∧ W.cell? ⟨w4.heap.size, 2, none⟩ = some (.int .i64 n.val) ∧ W.cell? ⟨w4.heap.size, 3, none⟩ = some (.int .i64 n.bound) ∧ W.cell? ⟨w4.heap.size, 4, none⟩ = some (.slice on n.args.length cn)) := fun W hB => hSB5.out _ (hD5.trans hB)
  have hb45 := hB5.size
  have hAn' : FAtP (· < W5.heap.size) W5.drew (.agg #[.int .i64 n.op, .string n.name, .int .i64 n.val, .int .i64 n.bound, .slice on n.args.length cn]) n :=
    FAtP.mono (hN.kept hB5.drew (fun b hb => hb.elim (fun h => Nat.lt_of_lt_of_le h hB4.size) (fun h => h.2))) (fun b hb => hb.elim (fun h => Nat.lt_of_lt_of_le h hB5'.size) (fun h => Nat.lt_of_lt_of_le h.2 hb45))
  have hD1 := hidi (not_any (· < W5.heap.size) n _ W5.drew (hE.below hB5'.drew) hAn' (fun b hb => hb) (by omega))
  have hnf : Hid (notF n = f) := hnn2
  have hD2 : Hid (∀ W r, Below W5.drew.heap.size W5.drew W → FAtP (NewP (· < W5.heap.size) W5.drew W) W r (notF n) → Calls Tryz.prog 19 #[r, .agg #[.int .i64 f.op, .string f.name, .int .i64 f.val, .int .i64 f.bound, .slice o1 f.args.length c1]] W fun e w' => e = .returned (.int .i64 0) ∧ Below W.heap.size W w') := by
    intro W r hB hr
    have hs := hB.size
    have h5 := hB5'.drew.trans (hB.mono hB5'.drew.size)
    have := compare_any (notF n) f W.heap.size r _ W (hr.mono fun b hb => hb.elim (fun h => Nat.lt_of_lt_of_le h hs) (fun h => h.2)) ((h1.kept h5 (Nat.le_refl _)).mono h5.size) (Nat.le_refl _)
    rw [hnf.out, (good_fm f).refl] at this
    exact this
  have hz := hz0.out
  clear d0 d1 d2 d3 d4
  go_wp2_with fail
  rw [hW5.out]
  go_region_held3 (fun X => X.cell? ⟨w.heap.size, 0, none⟩ = some (.int .i64 f.op) ∧ X.cell? ⟨w.heap.size, 1, none⟩ = some (.string f.name) ∧ X.cell? ⟨w.heap.size, 2, none⟩ = some (.int .i64 f.val) ∧ X.cell? ⟨w.heap.size, 3, none⟩ = some (.int .i64 f.bound) ∧ X.cell? ⟨w.heap.size, 4, none⟩ = some (.slice o1 f.args.length c1) ∧ X.cell? ⟨w4.heap.size, 0, none⟩ = some (.int .i64 n.op) ∧ X.cell? ⟨w4.heap.size, 1, none⟩ = some (.string n.name) ∧ X.cell? ⟨w4.heap.size, 2, none⟩ = some (.int .i64 n.val) ∧ X.cell? ⟨w4.heap.size, 3, none⟩ = some (.int .i64 n.bound) ∧ X.cell? ⟨w4.heap.size, 4, none⟩ = some (.slice on n.args.length cn))
    (first | with_reducible exact hk50.out | with_reducible exact hk51.out _ hb9 | with_reducible exact hk51.out _ hb8.out)
    (first | (go_at_call 33; (with_reducible refine hD1.out.mono ?_); rintro e w6 ⟨r6, rfl, hN6, hb9⟩; have hN6' := hidi hN6; have hb9' := hidi hb9) | (go_at_call 19; (with_reducible refine (hD2.out _ _ hb9'.out hN6'.out).mono ?_); rintro e w7 ⟨rfl, hb7⟩; have hb8 := hidi (hb9'.out.trans (hb7.mono hb9'.out.size))))
  have hB6 := hB5'.drew.trans (hb8.out.mono hB5'.drew.size)
  have hb06 := hb05.drew.trans (hb8.out.mono hb05.drew.size)
  clear hk50 hk51 hSB5
  obtain ⟨d0, d1, d2, d3, d4⟩ := hc.out.later hb06 hlt
  rw [Nat.zero_add] at d1 d2 d3 d4
  go_wp2_with fail
  have hP0 : ∀ b, b < w.heap.size → b < w7.heap.size := fun b hb => Nat.lt_of_lt_of_le hb hB6.size
  refine (kernel_any (· < w.heap.size) f _ w7 (hE.below hB6) (h1.kept hB6 (Nat.le_refl _)) hP0 (by have := s1.out; omega)).mono ?_
  rintro e wk ⟨rk, rfl, hK, hbk⟩
  obtain ⟨ek, hek⟩ : ∃ x, Hid ((kernelF f).2 = x) := ⟨_, hidi rfl⟩
  obtain ⟨k, hk⟩ : ∃ x, Hid ((kernelF f).1 = x) := ⟨_, hidi rfl⟩
  rw [hk.out] at hK
  rw [hek.out]
  obtain ⟨ok, ck, rfl, hfk, hAk⟩ := hK.open
  have hBk := hB6.trans (hbk.mono hB6.size)
  have hb0k := hb06.trans (hbk.mono hb06.size)
  obtain ⟨WK, hWK, hBK, hzK, hcK⟩ := box_new wk k ok ck
  have hBK' := hBk.trans (hBK.mono hBk.size)
  have hb0K := hb0k.trans (hBK.mono hb0k.size)
  clear d0 d1 d2 d3 d4
  obtain ⟨d0, d1, d2, d3, d4⟩ := hc.out.later hb0K hlt
  rw [Nat.zero_add] at d1 d2 d3 d4
  rw [← hWK.out] at d0 d1 d2 d3 d4
  go_wp2_with fail
  rw [hWK.out]
  refine (refone_any (· < w.heap.size) 4 _ f WK (h1.kept hBK' (Nat.le_refl _)) (fun b hb => Nat.lt_of_lt_of_le hb hBK'.size) (by decide)).mono ?_
  rintro e wo ⟨ro, rfl, hO, hbo⟩
  have hBo := hBK'.trans (hbo.mono hBK'.size)
  go_wp2_with fail
  refine (kernel_any (NewP (· < w.heap.size) WK wo) (mkOp 4 [f]) _ wo (hE.below hBo) hO (fun b hb => by have := hBo.size; rcases hb with hb | hb <;> omega) (by have := s1.out; have := (mkOp 4 [f]).nodes_eq; simp only [mkOp, Fm.args, Fm.nodesL_cons, Fm.nodesL_nil] at this; simp only [mkOp]; omega)).mono ?_
  rintro e wm ⟨rm, rfl, hM, hbm⟩
  obtain ⟨em, hem⟩ : ∃ x, Hid ((kernelF (mkOp 4 [f])).2 = x) := ⟨_, hidi rfl⟩
  obtain ⟨m, hm⟩ : ∃ x, Hid ((kernelF (mkOp 4 [f])).1 = x) := ⟨_, hidi rfl⟩
  rw [hm.out] at hM
  rw [hem.out]
  obtain ⟨om, cm, rfl, hfm, hAm⟩ := hM.open
  have hBm := hBo.trans (hbm.mono hBo.size)
  obtain ⟨WM, hWM, hBM, hzM, hcM⟩ := box_new wm m om cm
  have hBM' := hBm.trans (hBM.mono hBm.size)
  have hKM : Below WK.heap.size WK WM := (hbo.trans (hbm.mono hbo.size)).trans (hBM.mono (hbo.trans (hbm.mono hbo.size)).size)
  have hzk := hKM.size
  have hD : Below WM.heap.size WM WM.drew := (Below.refl _ WM).drew
  have hSB : Hid (∀ W, Below WM.heap.size WM W → W.cell? ⟨wk.heap.size, 0, none⟩ = some (.int .i64 k.op) ∧ W.cell? ⟨wk.heap.size, 1, none⟩ = some (.string k.name) ∧ W.cell? ⟨wk.heap.size, 2, none⟩ = some (.int .i64 k.val) ∧ W.cell? ⟨wk.heap.size, 3, none⟩ = some (.int .i64 k.bound) ∧ W.cell? ⟨wk.heap.size, 4, none⟩ = some (.slice ok k.args.length ck) ∧ W.cell? ⟨wm.heap.size, 0, none⟩ = some (.int .i64 m.op) ∧ W.cell? ⟨wm.heap.size, 1, none⟩ = some (.string m.name) ∧ W.cell? ⟨wm.heap.size, 2, none⟩ = some (.int .i64 m.val) ∧ W.cell? ⟨wm.heap.size, 3, none⟩ = some (.int .i64 m.bound) ∧ W.cell? ⟨wm.heap.size, 4, none⟩ = some (.slice om m.args.length cm)) := by
    intro W hB
    obtain ⟨a0, a1, a2, a3, a4⟩ := hcK.out.below (hKM.trans (hB.mono hKM.size)) (by omega)
    obtain ⟨b0, b1, b2, b3, b4⟩ := hcM.out.below hB (by omega)
    rw [Nat.zero_add] at a1 a2 a3 a4 b1 b2 b3 b4
    exact ⟨a0, a1, a2, a3, a4, b0, b1, b2, b3, b4⟩
  have hk0 : Hid (WM.drew.cell? ⟨wk.heap.size, 0, none⟩ = some (.int .i64 k.op) ∧ WM.drew.cell? ⟨wk.heap.size, 1, none⟩ = some (.string k.name) ∧ WM.drew.cell? ⟨wk.heap.size, 2, none⟩ = some (.int .i64 k.val) ∧ WM.drew.cell? ⟨wk.heap.size, 3, none⟩ = some (.int .i64 k.bound) ∧ WM.drew.cell? ⟨wk.heap.size, 4, none⟩ = some (.slice ok k.args.length ck) ∧ WM.drew.cell? ⟨wm.heap.size, 0, none⟩ = some (.int .i64 m.op) ∧ WM.drew.cell? ⟨wm.heap.size, 1, none⟩ = some (.string m.name) ∧ WM.drew.cell? ⟨wm.heap.size, 2, none⟩ = some (.int .i64 m.val) ∧ WM.drew.cell? ⟨wm.heap.size, 3, none⟩ = some (.int .i64 m.bound) ∧ WM.drew.cell? ⟨wm.heap.size, 4, none⟩ = some (.slice om m.args.length cm)) := hSB.out _ hD
  have hk1 : Hid (∀ W, Below WM.drew.heap.size WM.drew W → W.cell? ⟨wk.heap.size, 0, none⟩ = some (.int .i64 k.op) ∧ W.cell? ⟨wk.heap.size, 1, none⟩ = some (.string k.name) ∧ W.cell? ⟨wk.heap.size, 2, none⟩ = some (.int .i64 k.val) ∧ W.cell? ⟨wk.heap.size, 3, none⟩ = some (.int .i64 k.bound) ∧ W.cell? ⟨wk.heap.size, 4, none⟩ = some (.slice ok k.args.length ck) ∧ W.cell? ⟨wm.heap.size, 0, none⟩ = some (.int .i64 m.op) ∧ W.cell? ⟨wm.heap.size, 1, none⟩ = some (.string m.name) ∧ W.cell? ⟨wm.heap.size, 2, none⟩ = some (.int .i64 m.val) ∧ W.cell? ⟨wm.heap.size, 3, none⟩ = some (.int .i64 m.bound) ∧ W.cell? ⟨wm.heap.size, 4, none⟩ = some (.slice om m.args.length cm)) := fun W hB => hSB.out _ (hD.trans hB)
  go_wp2_with fail
  rw [hWM.out]
  by_cases ze : ek = 0
  · by_cases zm : em = 0
    · subst ze zm
      have heq : Hid (m = notF k) := by unfold Hid; rw [← hk.out, ← hm.out]; exact kernel_not hek.out hem.out
      have hkn : k.nodes ≤ 60 := by rw [← hk.out]; exact kernel_small f
      have hBkM : Below wk.heap.size wk WM := hBK.trans (hKM.mono hBK.size)
      have hzkM := hBkM.size
      have hzwm := hBM.size
      have hAk' : FAtP (· < WM.heap.size) WM.drew (.agg #[.int .i64 k.op, .string k.name, .int .i64 k.val, .int .i64 k.bound, .slice ok k.args.length ck]) k :=
        FAtP.mono (hK.kept hBkM.drew (fun b hb => hb.elim (fun h => Nat.lt_of_lt_of_le h hBk.size) (fun h => h.2))) (fun b hb => hb.elim (fun h => Nat.lt_of_lt_of_le h hBM'.size) (fun h => Nat.lt_of_lt_of_le h.2 hBkM.size))
      have hAm' : FAtP (· < WM.heap.size) WM.drew (.agg #[.int .i64 m.op, .string m.name, .int .i64 m.val, .int .i64 m.bound, .slice om m.args.length cm]) m :=
        FAtP.mono (hM.kept hBM.drew (fun b hb => by have h1 := hBm.size; have h2 := hBo.size; have h3 := hbm.size; rcases hb with (hb | hb) | hb <;> omega)) (fun b hb => by have h1 := hBm.size; have h2 := hBo.size; have h3 := hbm.size; rcases hb with (hb | hb) | hb <;> omega)
      have hC1 := hidi (not_any (· < WM.heap.size) k _ WM.drew (hE.below hBM'.drew) hAk' (fun b hb => hb) (by omega))
      have hC2 : Hid (∀ W r, Below WM.drew.heap.size WM.drew W → FAtP (NewP (· < WM.heap.size) WM.drew W) W r (notF k) → Calls Tryz.prog 19 #[.agg #[.int .i64 m.op, .string m.name, .int .i64 m.val, .int .i64 m.bound, .slice om m.args.length cm], r] W fun e w' => e = .returned (.int .i64 0) ∧ Below W.heap.size W w') := by
        intro W r hB hr
        have hs := hB.size
        have := compare_any m (notF k) W.heap.size _ r W (FAtP.mono (hAm'.kept hB fun b hb => hb) fun b hb => Nat.lt_of_lt_of_le hb hs) (hr.mono fun b hb => hb.elim (fun h => Nat.lt_of_lt_of_le h hs) (fun h => h.2)) (Nat.le_refl _)
        rw [heq.out, (good_fm (notF k)).refl] at this
        rw [← heq.out] at this
        exact this
      go_region_held3 (fun X => X.cell? ⟨wk.heap.size, 0, none⟩ = some (.int .i64 k.op) ∧ X.cell? ⟨wk.heap.size, 1, none⟩ = some (.string k.name) ∧ X.cell? ⟨wk.heap.size, 2, none⟩ = some (.int .i64 k.val) ∧ X.cell? ⟨wk.heap.size, 3, none⟩ = some (.int .i64 k.bound) ∧ X.cell? ⟨wk.heap.size, 4, none⟩ = some (.slice ok k.args.length ck) ∧ X.cell? ⟨wm.heap.size, 0, none⟩ = some (.int .i64 m.op) ∧ X.cell? ⟨wm.heap.size, 1, none⟩ = some (.string m.name) ∧ X.cell? ⟨wm.heap.size, 2, none⟩ = some (.int .i64 m.val) ∧ X.cell? ⟨wm.heap.size, 3, none⟩ = some (.int .i64 m.bound) ∧ X.cell? ⟨wm.heap.size, 4, none⟩ = some (.slice om m.args.length cm))
        (first | with_reducible exact hk0.out | with_reducible exact hk1.out _ hb9 | with_reducible exact hk1.out _ hb8.out)
        (first | (go_at_call 33; (with_reducible refine hC1.out.mono ?_); rintro e w4 ⟨r4, rfl, hN4, hb9⟩; have hN4' := hidi hN4; have hb9' := hidi hb9) | (go_at_call 19; (with_reducible refine (hC2.out _ _ hb9'.out hN4'.out).mono ?_); rintro e w5 ⟨rfl, hb5⟩; have hb8 := hidi (hb9'.out.trans (hb5.mono hb9'.out.size))))
      go_wp2_with fail
      go_ret
      exact ⟨rfl, hBM'.drew.trans (hb8.out.mono hBM'.drew.size)⟩
    · have zm' : (em != 0) = true := bne_iff_ne.2 zm
      subst ze
      clear hk0 hk1 hSB
      go_quiet (fail)
      go_wp2_with fail
      go_ret
      exact ⟨rfl, below_drewN hBM' _⟩
  · have ze' : (ek != 0) = true := bne_iff_ne.2 ze
    clear hk0 hk1 hSB
    go_quiet (fail)
    go_wp2_with fail
    go_ret
    exact ⟨rfl, below_drewN hBM' _⟩

theorem neg_any (hd : HeadOk) (f : Fm) (v1 : Value) (w : World) (hE : Env w) (h1 : FAt w.heap.size w v1 f) :
    Calls Tryz.prog 7 #[v1] w fun e w' => e = .returned (.bool true) ∧ Below w.heap.size w w' := by
  by_cases s1 : f.nodes ≤ 420
  · cases hl : looseB f
    · exact neg_tight hd f v1 w hE h1 (hidi s1) (hidi hl)
    · by_cases hz : (notF f).op = 0
      · exact neg_none hd f v1 w hE h1 (hidi s1) (hidi hl) _ (hidi rfl) (hidi (by simp [hz]))
      · exact neg_more hd f v1 w hE h1 (hidi s1) (hidi hl) _ (hidi rfl) (hidi (bne_iff_ne.2 hz)) (hidi (not_not hl hz))
  · exact neg_big hd f v1 w hE h1 (hidi s1)

end Go.Proofs.YtmklekdkaekcbaaGreatDoor

/-
  FormulaNegation's row and card from its walk.
-/
namespace Go.Proofs.YtmklekdkaekcbaaGreatDoor
open Go.ChangeShapes Go.WideShapes Go.ChangeAt Go.RowKit Go.Deep

theorem neg_par : ∀ t ∈ Tryz.f7.params.toList, Tryz.prog.readableRec t = true ∧ t < Tryz.prog.types.size := by
  rw [Tryz.params7]
  intro t ht
  simp at ht
  subst ht
  exact ⟨by kernel_rfl, of_decide_eq_true (by kernel_rfl)⟩

set_option maxRecDepth 100000 in
theorem neg_lifted (hd : HeadOk) (os : Os) (started : os.Started) (H : Type) (enc : TypeId × Value → H) :
    ReturnsInHanded {} Tryz.checked os 7 .any (fun w args => (Rows.formulaNegationSpec.pre enc Tryz.prog Tryz.f7 Rows.formulaNegationRow.domain false w args ∧ laidMetH Tryz.prog laidForms w) ∧ sizedMet enc Tryz.prog Tryz.f7 (OpenSpec.ofChange Rows.formulaNegationSpec) false w args)
      (Rows.formulaNegationSpec.post enc Tryz.prog Tryz.f7 false true false false) := by
  refine returnsInHanded_of_change_and (C := Tryz.checked) (X := fun w _ => laidMetH Tryz.prog laidForms w) (fun _ _ _ hh h => h.of_heap hh) Tryz.own started (by kernel_rfl) Tryz.func7
    (ChangeSpec.witness_shaped (enc := enc) (C := Tryz.checked) (os := os) (X := fun w _ => laidMetH Tryz.prog laidForms w) false (World.laidAll Tryz.prog os laidForms)
      #[.agg #[.int .i64 0, .string ⟨#[]⟩, .int .i64 0, .int .i64 0, .slice none 0 0]] 8 (World.laidAll_os _ _ _)
      (World.shaped_of_ZipB (by kernel_rfl) (by kernel_rfl)) (by kernel_rfl) (by kernel_rfl) (by kernel_rfl)
      (by rw [MakeChecks.laidMetH_plain _ _ _ (by kernel_rfl)]; exact laidMet_laidAll _ (by kernel_rfl) (by kernel_rfl))) ?_
  intro W base args ds gs before hval0 hW _ _ hL _
  have hval : ∀ (j : Nat) t v, Tryz.f7.params[j]? = some t → args[j]? = some v → Value.okWide Tryz.prog W .any base t v := hval0
  have hW' := hW
  obtain ⟨p, q, hA0, hV, rfl, hfz, hnd⟩ := hW
  have hA : DataW.TrodAll enc Tryz.prog W 0 (fun _ => true) true Tryz.f7.params.toList args.toList ds p := hA0
  rw [Tryz.params7] at hA hval
  obtain ⟨v0, d0, rfl, rfl, h0⟩ := trodAll_one hA
  obtain ⟨rfl, rfl⟩ := trodVars_none hV
  obtain ⟨f0, hf0⟩ := fm_openT (hval 0 24 v0 rfl rfl) h0
  exact law_post hW' rfl rfl neg_par rfl rfl rfl (neg_any hd f0 v0 W (env_open hL) hf0)

theorem neg_holds (hd : HeadOk) : Rows.FormulaNegationSaid :=
  OpenClaim.holds_of_wide 7 Tryz.f7 rfl rfl rfl rfl rfl rfl rfl ⟨rfl, rfl, rfl, rfl, rfl⟩ rfl rfl rfl rfl rfl (by kernel_rfl) Tryz.func7 (by kernel_rfl)
    (of_decide_eq_true (by kernel_rfl)) (by unfold Func.isWrapper; rw [if_neg (of_decide_eq_false (by kernel_rfl))]; exact ⟨rfl, rfl⟩)
    (fun os started H enc _ => neg_lifted hd os started H enc)

theorem neg_card (hd : HeadOk) : Rows.FormulaNegationCardSaid :=
  Claim7.holds_tied_plain_at .later [] [.data] true Rows.formulaNegationCard.stood.harness false (neg_holds hd) (fun _ h => by cases h) (by kernel_rfl) (fun _ h => by cases h) formulaNegation_row_tie rfl ⟨rfl, rfl⟩ (by kernel_rfl) rfl
    (fun f fn hf hfn => by
      obtain rfl : f = 7 := Option.some.inj ((show Tryz.prog.funcNamed "foresight/foresightlaw03.FormulaNegation" = some 7 by kernel_rfl).symm.trans hf) |>.symm
      obtain rfl : fn = Tryz.f7 := (Option.some.inj (Tryz.func7.symm.trans hfn)).symm
      exact ⟨by kernel_rfl, fun j t ht => by
        rw [Tryz.params7] at ht
        have hm : t ∈ [24] := by simpa using Array.mem_of_getElem? ht
        have hall : ([24].all fun u => !Tryz.prog.wantsStandIn u) = true := by kernel_rfl
        exact (show Tryz.prog.wantsStandIn t = false by simpa using List.all_eq_true.1 hall t hm)⟩)
    (by kernel_rfl)

end Go.Proofs.YtmklekdkaekcbaaGreatDoor
