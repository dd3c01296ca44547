/-
  The form of a form: signs multiply; forms are loose kernels but for their size.
-/
import Derived.Test.YtlkoacopknolnaaGreatDoorFmG
namespace Go.Proofs.YtlkoacopknolnaaGreatDoor

theorem nodeB_made {o v : Int} {l : List Fm} (hk : 1 ≤ o ∧ o ≤ 19) (h3 : o ≠ 3) (hv : 0 ≤ v ∧ v ≤ fVal o.toNat) (hl : fLeast o.toNat ≤ l.length ∧ (l.length : Int) ≤ fMost o.toNat) : nodeB (.mk o ⟨#[]⟩ v 0 l) = true := by
  unfold nodeB nameOkB btwB
  simp only [Bool.and_eq_true, decide_eq_true_eq]
  show (((knownB o = true ∧ (if fNamed o.toNat then nameB ⟨#[]⟩ else (⟨#[]⟩ : ByteArray).toList.isEmpty) = true) ∧ 0 ≤ v ∧ v ≤ fVal o.toNat) ∧ (0 : Int) ≤ 0 ∧ 0 ≤ fBound o.toNat) ∧ fLeast o.toNat ≤ (l.length : Int) ∧ (l.length : Int) ≤ fMost o.toNat
  have hn : fNamed o.toNat = false := by
    rcases op_cases hk with e | e | e | e | e | e | e | e | e | e | e | e | e | e | e | e | e | e | e <;> subst e <;> first | rfl | exact (h3 rfl).elim
  have hb : 0 ≤ fBound o.toNat := by
    rcases op_cases hk with e | e | e | e | e | e | e | e | e | e | e | e | e | e | e | e | e | e | e <;> subst e <;> decide
  refine ⟨⟨⟨⟨(knownB_iff _).2 hk, ?_⟩, hv⟩, Int.le_refl _, hb⟩, hl⟩
  rw [hn]
  simp [ByteArray.toList_eq]

/-- the form of a node with an operator of kernels, both signs -/
theorem form_plain {f : Fm} (hn : nodeB f = true) (hp : plainOp f.op) (h3 : f.op ≠ 3) (n : Bool) :
    formP f n = .mk (if n then fDual f.op.toNat else f.op) ⟨#[]⟩ (if n then (if fTense f.op.toNat = 1 then 1 - f.val else 0) else f.val) 0 (f.args.map fun x => formP x n) := by
  obtain ⟨h1, -, -, h4, h5, -, -⟩ := nodeB_flds hn
  cases n
  · have e3 : f.bound = 0 := by
      rcases hp with e | e | e | e | e | e | e | e | e | e | e <;> rw [e] at h5 <;> simp [fBound, formRow, formsRows] at h5 <;> omega
    rw [form_pos hn hp, h1 h3, e3]; rfl
  · rw [form_neg hn hp h3]; rfl

theorem plain_facts {o : Int} (hp : plainOp o) (h3 : o ≠ 3) : plainOp (fDual o.toNat) ∧ fDual o.toNat ≠ 3 ∧ fDual (fDual o.toNat).toNat = o ∧ fTense (fDual o.toNat).toNat = fTense o.toNat ∧ fLeast (fDual o.toNat).toNat = fLeast o.toNat ∧ fMost (fDual o.toNat).toNat = fMost o.toNat ∧ fVal (fDual o.toNat).toNat = fVal o.toNat ∧ (fTense o.toNat = 1 → fVal o.toNat = 1) ∧ (fTense o.toNat ≠ 1 → fVal o.toNat = 0) := by
  rcases hp with rfl | rfl | rfl | rfl | rfl | rfl | rfl | rfl | rfl | rfl | rfl <;> first | exact (h3 rfl).elim | (unfold plainOp; decide)

/-- a made node of kernels is well-formed -/
theorem node_plain {f : Fm} (hn : nodeB f = true) (hp : plainOp f.op) (h3 : f.op ≠ 3) (n : Bool) : nodeB (formP f n) = true ∧ plainOp (formP f n).op ∧ (formP f n).op ≠ 3 := by
  obtain ⟨-, h2, h3', -, -, h6, h7⟩ := nodeB_flds hn
  obtain ⟨g1, g2, g3, g4, g5, g6, g7, g8, g9⟩ := plain_facts hp h3
  rw [form_plain hn hp h3]
  have hr : ∀ {o : Int}, plainOp o → 1 ≤ o ∧ o ≤ 19 := by intro o h; unfold plainOp at h; omega
  cases n
  · exact ⟨nodeB_made (hr hp) h3 ⟨h2, h3'⟩ (by rw [List.length_map]; exact ⟨h6, h7⟩), hp, h3⟩
  · refine ⟨nodeB_made (hr g1) g2 ?_ (by rw [List.length_map]; exact ⟨by simpa [g5] using h6, by simpa [g6] using h7⟩), g1, g2⟩
    simp only [if_true]
    rw [g7]
    split
    · next ht => have := g8 ht; omega
    · next ht => have := g9 ht; omega

theorem form_rep (o : Int) (ho : o = 5 ∨ o = 6) (x : Fm) (m : Bool) : ∀ n : Nat, formP (repF o n x) m = repF (if m then dualN o else o) n (formP x m)
  | 0 => rfl
  | n + 1 => by
    have ih := form_rep o ho x m n
    rcases ho with rfl | rfl <;> cases m <;> simp [repF, mkOp, formP, formPL, formN, dualN] at ih ⊢ <;> exact ih

/-- signs multiply -/
theorem form_form (f : Fm) : nodesB f = true → ∀ n m, formP (formP f n) m = formP f (n != m) := by
  induction f using Fm.ind with
  | h f ih =>
    intro hf n m
    have hn := nodesB_self hf
    have harg : ∀ x ∈ f.args, ∀ n m, formP (formP x n) m = formP x (n != m) := fun x hx => ih x hx (nodesB_arg hf hx)
    rcases op_parts (nodeB_known hn) with hp | h4 | hs
    · by_cases h3 : f.op = 3
      · obtain ⟨e1, e2⟩ := form_is h3
        have e4 : ∀ m, formP (mkOp 4 [f]) m = formP f (!m) := fun m => form_not (f := mkOp 4 [f]) rfl rfl m
        cases n <;> cases m <;> simp [e1, e2, e4]
      · obtain ⟨q1, q2, q3⟩ := node_plain hn hp h3 n
        obtain ⟨g1, g2, g3, g4, g5, g6, g7, g8, g9⟩ := plain_facts hp h3
        obtain ⟨-, h2, h3', -, -, -, -⟩ := nodeB_flds hn
        have eo : (formP f n).op = if n then fDual f.op.toNat else f.op := by rw [form_plain hn hp h3 n]; rfl
        have ev : (formP f n).val = if n then (if fTense f.op.toNat = 1 then 1 - f.val else 0) else f.val := by rw [form_plain hn hp h3 n]; rfl
        have ea : (formP f n).args = f.args.map fun x => formP x n := by rw [form_plain hn hp h3 n]; rfl
        rw [form_plain q1 q2 q3 m, form_plain hn hp h3 (n != m), eo, ev, ea, List.map_map]
        have hmap : f.args.map ((fun x => formP x m) ∘ fun x => formP x n) = f.args.map fun x => formP x (n != m) := List.map_congr_left fun x hx => harg x hx n m
        rw [hmap]
        cases n <;> cases m <;> simp [g3, g4]
        split
        · omega
        · next ht => have := g9 ht; omega
    · obtain ⟨x, hx⟩ := args_one_of hn (by rw [h4]; rfl) (by rw [h4]; rfl)
      rw [form_not h4 hx, form_not h4 hx, harg x (by rw [hx]; simp)]
      cases n <;> cases m <;> rfl
    · obtain ⟨o, nm, v, b, a⟩ := f
      simp only [Fm.op, Fm.args] at hs harg
      rcases hs with rfl | rfl | rfl | rfl | rfl | rfl | rfl
      · obtain ⟨x, y, rfl⟩ := args_two_of hn (by rfl) (by rfl)
        have hx := harg x (by simp)
        have hy := harg y (by simp)
        cases n <;> cases m <;> simp [mkOp, formP, formPL, formN, dualN, hx, hy]
      · obtain ⟨x, rfl⟩ := said_one hn (by simp [Fm.op])
        have hx := harg x (by simp)
        cases n <;> cases m <;> simp [mkOp, formP, formPL, formN, dualN, hx]
      · obtain ⟨x, rfl⟩ := said_one hn (by simp [Fm.op])
        have hx := harg x (by simp)
        cases n <;> cases m <;> simp [mkOp, formP, formPL, formN, dualN, hx]
      · obtain ⟨x, rfl⟩ := said_one hn (by simp [Fm.op])
        have hx := harg x (by simp)
        cases n <;> cases m <;> simp [formP, formPL, formN, form_rep, dualN, hx]
      · obtain ⟨x, rfl⟩ := said_one hn (by simp [Fm.op])
        have hx := harg x (by simp)
        cases n <;> cases m <;> simp [formP, formPL, formN, form_rep, dualN, hx]
      · obtain ⟨x, rfl⟩ := said_one hn (by simp [Fm.op])
        have hx := harg x (by simp)
        cases n <;> cases m <;> simp [mkOp, mkLate, formP, formPL, formN, dualN, hx]
      · obtain ⟨x, rfl⟩ := said_one hn (by simp [Fm.op])
        have hx := harg x (by simp)
        cases n <;> cases m <;> simp [mkOp, mkLate, formP, formPL, formN, dualN, hx]

/-- what holds of the leaves and goes up through nodes of kernels holds of forms; a node of the form is late, or of the future, only if the node that it comes from is -/
theorem form_all {C D : Fm → Prop} (cd : ∀ f, D f → ∀ x ∈ f.args, D x) (c0 : ∀ f, D f → nodeB f = true → f.op = 3 → C f ∧ C (mkOp 4 [f]))
    (c1 : ∀ f F, D f → nodeB F = true → plainOp F.op → F.op ≠ 3 → (lateB F.op = true → lateB f.op = true ∧ ∀ X ∈ F.args, (∃ x ∈ f.args, ∃ n, X = formP x n) ∨ X = mkOp 1 [] ∨ X = mkOp 2 []) → (futB F.op = true → futB f.op = true) → (∀ X ∈ F.args, C X) → C F) (f : Fm) : nodesB f = true → D f → ∀ n, C (formP f n) := by
  induction f using Fm.ind with
  | h f ih =>
    intro hf hd n
    have hn := nodesB_self hf
    have harg : ∀ x ∈ f.args, ∀ n, C (formP x n) := fun x hx => ih x hx (nodesB_arg hf hx) (cd f hd x hx)
    have two : ∀ {o v : Int} {X Y : Fm}, (o = 5 ∨ o = 6 ∨ o = 9 ∨ o = 10 ∨ o = 16 ∨ o = 17) → (v = 0 ∨ (v = 1 ∧ o = 17)) → (o = 16 ∨ o = 17 → lateB f.op = true ∧ (∃ y ∈ f.args, ∃ n, Y = formP y n) ∧ (X = mkOp 1 [] ∨ X = mkOp 2 [])) → (o = 9 ∨ o = 10 → futB f.op = true) → C X → C Y → C (.mk o ⟨#[]⟩ v 0 [X, Y]) := by
      intro o v x y ho hv hl hu hx hy
      refine c1 f _ hd (nodeB_made (by omega) (by omega) ?_ ?_) (by unfold plainOp; simp only [Fm.op]; omega) (by simp only [Fm.op]; omega) ?_ ?_ (by intro z hz; simp only [Fm.args, List.mem_cons, List.not_mem_nil, or_false] at hz; rcases hz with rfl | rfl <;> assumption)
      · rcases ho with rfl | rfl | rfl | rfl | rfl | rfl <;> rcases hv with rfl | ⟨rfl, hv⟩ <;> first | (cases hv; done) | decide
      · rcases ho with rfl | rfl | rfl | rfl | rfl | rfl <;> simp [fLeast, fMost, formRow, formsRows]
      · intro hlate
        have h16 : o = 16 ∨ o = 17 := by change lateB o = true at hlate; simp [lateB] at hlate; omega
        obtain ⟨l1, l2, l3⟩ := hl h16
        refine ⟨l1, fun z hz => ?_⟩
        simp only [Fm.args, List.mem_cons, List.not_mem_nil, or_false] at hz
        rcases hz with rfl | rfl
        · exact .inr l3
        · exact .inl l2
      · intro hfut
        exact hu (by change futB o = true at hfut; simp [futB] at hfut; omega)
    have none : ∀ {o : Int}, (o = 1 ∨ o = 2) → C (mkOp o []) := by
      intro o ho
      refine c1 f _ hd (nodeB_made (by omega) (by omega) ?_ ?_) (by unfold plainOp; simp only [mkOp, Fm.op]; omega) (by simp only [mkOp, Fm.op]; omega) ?_ ?_ (by intro z hz; cases hz)
      · rcases ho with rfl | rfl <;> decide
      · rcases ho with rfl | rfl <;> simp [fLeast, fMost, formRow, formsRows]
      · intro h; change lateB o = true at h; simp [lateB] at h; omega
      · intro h; change futB o = true at h; simp [futB] at h; omega
    have next : ∀ {x : Fm}, futB f.op = true → C x → C (mkOp 8 [x]) := by
      intro x hu hx
      exact c1 f _ hd (nodeB_made (by omega) (by omega) (by decide) (by simp [fLeast, fMost, formRow, formsRows])) (by simp [plainOp, mkOp, Fm.op]) (by simp [mkOp, Fm.op]) (by intro h; simp [mkOp, lateB, Fm.op] at h) (fun _ => hu) (by intro z hz; simp only [mkOp, Fm.args, List.mem_cons, List.not_mem_nil, or_false] at hz; subst hz; exact hx)
    have rep : ∀ {o : Int} {x : Fm}, (o = 5 ∨ o = 6) → futB f.op = true → C x → ∀ n, C (repF o n x) := by
      intro o x ho hu hx n
      induction n with
      | zero => exact hx
      | succ n ih => exact two (by omega) (.inl rfl) (by omega) (by omega) hx (next hu ih)
    rcases op_parts (nodeB_known hn) with hp | h4 | hs
    · by_cases h3 : f.op = 3
      · obtain ⟨e1, e2⟩ := form_is h3
        cases n
        · rw [e2]; exact (c0 f hd hn h3).1
        · rw [e1]; exact (c0 f hd hn h3).2
      · obtain ⟨q1, q2, q3⟩ := node_plain hn hp h3 n
        have eo : (formP f n).op = if n then fDual f.op.toNat else f.op := by rw [form_plain hn hp h3 n]; rfl
        have ea : (formP f n).args = f.args.map fun x => formP x n := by rw [form_plain hn hp h3 n]; rfl
        have hfl : lateB (formP f n).op = lateB f.op ∧ futB (formP f n).op = futB f.op := by
          rw [eo]
          rcases hp with e | e | e | e | e | e | e | e | e | e | e <;> rw [e] <;> cases n <;> decide
        refine c1 f _ hd q1 q2 q3 (fun h => ⟨by rw [← hfl.1]; exact h, fun X hX => ?_⟩) (fun h => by rw [← hfl.2]; exact h) fun X hX => ?_
        · rw [ea] at hX
          obtain ⟨y, hy, rfl⟩ := List.mem_map.1 hX
          exact .inl ⟨y, hy, n, rfl⟩
        · rw [ea] at hX
          obtain ⟨y, hy, rfl⟩ := List.mem_map.1 hX
          exact harg y hy n
    · obtain ⟨x, hx⟩ := args_one_of hn (by rw [h4]; rfl) (by rw [h4]; rfl)
      rw [form_not h4 hx]
      exact harg x (by rw [hx]; simp) _
    · obtain ⟨o, nm, v, b, a⟩ := f
      simp only [Fm.op, Fm.args] at hs harg
      rcases hs with rfl | rfl | rfl | rfl | rfl | rfl | rfl
      · obtain ⟨x, y, rfl⟩ := args_two_of hn (by rfl) (by rfl)
        have hx := harg x (by simp)
        have hy := harg y (by simp)
        cases n <;> simp only [formP, formPL, formN] <;> exact two (by omega) (.inl rfl) (by omega) (by omega) (hx _) (hy _)
      · obtain ⟨x, rfl⟩ := said_one hn (by simp [Fm.op])
        have hx := harg x (by simp)
        cases n <;> exact two (by omega) (.inl rfl) (by omega) (fun _ => rfl) (none (by omega)) (hx _)
      · obtain ⟨x, rfl⟩ := said_one hn (by simp [Fm.op])
        have hx := harg x (by simp)
        cases n <;> exact two (by omega) (.inl rfl) (by omega) (fun _ => rfl) (none (by omega)) (hx _)
      · obtain ⟨x, rfl⟩ := said_one hn (by simp [Fm.op])
        have hx := harg x (by simp)
        cases n <;> exact rep (by omega) rfl (hx _) _
      · obtain ⟨x, rfl⟩ := said_one hn (by simp [Fm.op])
        have hx := harg x (by simp)
        cases n <;> exact rep (by omega) rfl (hx _) _
      · obtain ⟨x, rfl⟩ := said_one hn (by simp [Fm.op])
        have hx := harg x (by simp)
        cases n
        · exact two (by omega) (.inl rfl) (fun _ => ⟨rfl, ⟨x, by simp [Fm.args], _, rfl⟩, .inl rfl⟩) (by omega) (none (by omega)) (hx _)
        · exact two (by omega) (.inr ⟨rfl, rfl⟩) (fun _ => ⟨rfl, ⟨x, by simp [Fm.args], _, rfl⟩, .inr rfl⟩) (by omega) (none (by omega)) (hx _)
      · obtain ⟨x, rfl⟩ := said_one hn (by simp [Fm.op])
        have hx := harg x (by simp)
        cases n
        · exact two (by omega) (.inr ⟨rfl, rfl⟩) (fun _ => ⟨rfl, ⟨x, by simp [Fm.args], _, rfl⟩, .inr rfl⟩) (by omega) (none (by omega)) (hx _)
        · exact two (by omega) (.inl rfl) (fun _ => ⟨rfl, ⟨x, by simp [Fm.args], _, rfl⟩, .inl rfl⟩) (by omega) (none (by omega)) (hx _)

/-- forms are well-formed, of the operators of kernels -/
theorem form_core {f : Fm} (h : nodesB f = true) (n : Bool) : nodesB (formP f n) = true ∧ coreB (formP f n) = true := by
  refine form_all (C := fun F => nodesB F = true ∧ coreB F = true) (D := fun _ => True) (fun _ _ _ _ => trivial) ?_ ?_ f h trivial n
  · intro f _ hn h3
    obtain ⟨-, -, -, -, -, -, h7⟩ := nodeB_flds hn
    have h0 : f.args = [] := List.eq_nil_of_length_eq_zero (by rw [h3] at h7; have : fMost (3 : Int).toNat = 0 := rfl; omega)
    have h1 : nodesB f = true := nodes_mk hn (by rw [h0]; intro x hx; cases hx)
    have h2 : coreB f = true := Fm.all_mk (by simp [coreNodeB, coreOpB, btwB, h3]) (by rw [h0]; intro x hx; cases hx)
    refine ⟨⟨h1, h2⟩, nodes_one (.inl rfl) h1, Fm.all_mk ?_ ?_⟩
    · simp [coreNodeB, coreOpB, btwB, mkOp, Fm.op, arg0, Fm.args]; cases f; exact h3
    · intro x hx; simp only [mkOp, Fm.args, List.mem_cons, List.not_mem_nil, or_false] at hx; subst hx; exact h2
  · intro f F _ hn hp h3 _ _ ha
    refine ⟨nodes_mk hn fun x hx => (ha x hx).1, Fm.all_mk ?_ fun x hx => (ha x hx).2⟩
    rcases hp with e | e | e | e | e | e | e | e | e | e | e <;> simp [coreNodeB, coreOpB, btwB, e]

theorem form_past {f : Fm} (h : nodesB f = true) (hp : pastB f = true) (n : Bool) : pastB (formP f n) = true := by
  refine form_all (C := fun F => pastB F = true) (D := fun f => pastB f = true) (fun _ h _ hx => Fm.all_arg h hx) ?_ ?_ f h hp n
  · intro f _ hn h3
    obtain ⟨-, -, -, -, -, -, h7⟩ := nodeB_flds hn
    have h0 : f.args = [] := List.eq_nil_of_length_eq_zero (by rw [h3] at h7; have : fMost (3 : Int).toNat = 0 := rfl; omega)
    have h2 : pastB f = true := Fm.all_mk (by simp [futB, h3]) (by rw [h0]; intro x hx; cases hx)
    refine ⟨h2, Fm.all_mk (by simp [mkOp, futB, Fm.op]) ?_⟩
    intro x hx; simp only [mkOp, Fm.args, List.mem_cons, List.not_mem_nil, or_false] at hx; subst hx; exact h2
  · intro f F hd _ _ _ _ hu ha
    refine Fm.all_mk ?_ ha
    cases e : futB F.op
    · rfl
    · have h1 := hu e
      have h2 := Fm.all_self (p := fun g => !futB g.op) hd
      simp [h1] at h2

theorem form_lay {f : Fm} (h : nodesB f = true) (hp : layB f = true) (n : Bool) : layB (formP f n) = true := by
  refine form_all (C := fun F => layB F = true) (D := fun f => layB f = true ∧ nodesB f = true) (fun _ h _ hx => ⟨Fm.all_arg h.1 hx, nodesB_arg h.2 hx⟩) ?_ ?_ f h ⟨hp, h⟩ n
  · intro f _ hn h3
    obtain ⟨-, -, -, -, -, -, h7⟩ := nodeB_flds hn
    have h0 : f.args = [] := List.eq_nil_of_length_eq_zero (by rw [h3] at h7; have : fMost (3 : Int).toNat = 0 := rfl; omega)
    have h2 : layB f = true := Fm.all_mk (by simp [lateB, h3]) (by rw [h0]; intro x hx; cases hx)
    refine ⟨h2, Fm.all_mk (by simp [mkOp, lateB, Fm.op]) ?_⟩
    intro x hx; simp only [mkOp, Fm.args, List.mem_cons, List.not_mem_nil, or_false] at hx; subst hx; exact h2
  · intro f F hd _ _ _ hl _ ha
    refine Fm.all_mk ?_ ha
    cases e : lateB F.op
    · rfl
    · obtain ⟨h1, h2⟩ := hl e
      have h3 := Fm.all_self (p := fun g => !lateB g.op || g.args.all pastB) hd.1
      simp only [h1, Bool.not_true, Bool.false_or, List.all_eq_true] at h3 ⊢
      intro X hX
      rcases h2 X hX with ⟨x, hx, m, rfl⟩ | rfl | rfl
      · exact form_past (nodesB_arg hd.2 hx) (h3 x hx) m
      · rfl
      · rfl

/-- a formula of the operators of kernels is its own positive form -/
theorem form_self (f : Fm) : nodesB f = true → coreB f = true → formP f false = f := by
  induction f using Fm.ind with
  | h f ih =>
    intro hf hc
    have hn := nodesB_self hf
    have hc0 := Fm.all_self (p := coreNodeB) hc
    have harg : ∀ x ∈ f.args, formP x false = x := fun x hx => ih x hx (nodesB_arg hf hx) (Fm.all_arg hc hx)
    rcases op_parts (nodeB_known hn) with hp | h4 | hs
    · rw [form_pos hn hp]
      have : f.args.map (fun x => formP x false) = f.args := by
        rw [List.map_congr_left harg, List.map_id']
      rw [this]; cases f; rfl
    · obtain ⟨x, hx⟩ := args_one_of hn (by rw [h4]; rfl) (by rw [h4]; rfl)
      have h3 : x.op = 3 := by simpa [coreNodeB, coreOpB, btwB, h4, arg0, hx] using hc0
      rw [form_not h4 hx, Bool.not_false, (form_is h3).1]
      obtain ⟨h1, g2, g3, g4, g5, -, -⟩ := nodeB_flds hn
      obtain ⟨o, nm, v, b, a⟩ := f
      simp only [Fm.op, Fm.name, Fm.val, Fm.bound, Fm.args] at *
      subst h4 hx
      have e1 := h1 (by decide)
      have e2 : v = 0 := by simp [fVal, formRow, formsRows] at g3; omega
      have e3 : b = 0 := by simp [fBound, formRow, formsRows] at g5; omega
      rw [e1, e2, e3]; rfl
    · exfalso
      rcases hs with e | e | e | e | e | e | e <;> simp [coreNodeB, coreOpB, btwB, e] at hc0

end Go.Proofs.YtlkoacopknolnaaGreatDoor
