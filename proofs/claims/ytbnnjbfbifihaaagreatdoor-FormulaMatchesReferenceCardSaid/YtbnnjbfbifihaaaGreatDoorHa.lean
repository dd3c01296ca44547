/-
  Contracts that FormulaMatchesReference stands on, part Ha.
-/
import Derived.Test.YtbnnjbfbifihaaaGreatDoorFmG
import Derived.Test.YtbnnjbfbifihaaaGreatDoorFcR
import Derived.Test.YtbnnjbfbifihaaaGreatDoorGi
import Derived.Test.YtbnnjbfbifihaaaGreatDoorGg
namespace Go.Proofs.YtbnnjbfbifihaaaGreatDoor

set_option maxRecDepth 100000
set_option maxHeartbeats 80000000

theorem nodeB_made {o v : Int} {l : List Fm} (hk : 1 ≤ o ∧ o ≤ 19) (h3 : o ≠ 3) (hv : 0 ≤ v ∧ v ≤ fVal o.toNat) (hl : fLeast o.toNat ≤ l.length ∧ (l.length : Int) ≤ fMost o.toNat) : nodeB (.mk o ⟨#[]⟩ v 0 l) = true := by
  unfold nodeB nameOkB btwB
  simp only [Bool.and_eq_true, decide_eq_true_eq]
  show (((knownB o = true ∧ (if fNamed o.toNat then nameB ⟨#[]⟩ else (⟨#[]⟩ : ByteArray).toList.isEmpty) = true) ∧ 0 ≤ v ∧ v ≤ fVal o.toNat) ∧ (0 : Int) ≤ 0 ∧ 0 ≤ fBound o.toNat) ∧ fLeast o.toNat ≤ (l.length : Int) ∧ (l.length : Int) ≤ fMost o.toNat
  have hn : fNamed o.toNat = false := by
    rcases op_cases hk with e | e | e | e | e | e | e | e | e | e | e | e | e | e | e | e | e | e | e <;> subst e <;> first | rfl | exact (h3 rfl).elim
  have hb : 0 ≤ fBound o.toNat := by
    rcases op_cases hk with e | e | e | e | e | e | e | e | e | e | e | e | e | e | e | e | e | e | e <;> subst e <;> decide
  refine ⟨⟨⟨⟨(knownB_iff _).2 hk, ?_⟩, hv⟩, Int.le_refl _, hb⟩, hl⟩
  rw [hn]
  simp [ByteArray.toList_eq]
theorem form_plain {f : Fm} (hn : nodeB f = true) (hp : plainOp f.op) (h3 : f.op ≠ 3) (n : Bool) :
    formP f n = .mk (if n then fDual f.op.toNat else f.op) ⟨#[]⟩ (if n then (if fTense f.op.toNat = 1 then 1 - f.val else 0) else f.val) 0 (f.args.map fun x => formP x n) := by
  obtain ⟨h1, -, -, h4, h5, -, -⟩ := nodeB_flds hn
  cases n
  · have e3 : f.bound = 0 := by
      rcases hp with e | e | e | e | e | e | e | e | e | e | e <;> rw [e] at h5 <;> simp [fBound, formRow, formsRows] at h5 <;> omega
    rw [form_pos hn hp, h1 h3, e3]; rfl
  · rw [form_neg hn hp h3]; rfl
theorem plain_facts {o : Int} (hp : plainOp o) (h3 : o ≠ 3) : plainOp (fDual o.toNat) ∧ fDual o.toNat ≠ 3 ∧ fDual (fDual o.toNat).toNat = o ∧ fTense (fDual o.toNat).toNat = fTense o.toNat ∧ fLeast (fDual o.toNat).toNat = fLeast o.toNat ∧ fMost (fDual o.toNat).toNat = fMost o.toNat ∧ fVal (fDual o.toNat).toNat = fVal o.toNat ∧ (fTense o.toNat = 1 → fVal o.toNat = 1) ∧ (fTense o.toNat ≠ 1 → fVal o.toNat = 0) := by
  rcases hp with rfl | rfl | rfl | rfl | rfl | rfl | rfl | rfl | rfl | rfl | rfl <;> first | exact (h3 rfl).elim | (unfold plainOp; decide)
theorem node_plain {f : Fm} (hn : nodeB f = true) (hp : plainOp f.op) (h3 : f.op ≠ 3) (n : Bool) : nodeB (formP f n) = true ∧ plainOp (formP f n).op ∧ (formP f n).op ≠ 3 := by
  obtain ⟨-, h2, h3', -, -, h6, h7⟩ := nodeB_flds hn
  obtain ⟨g1, g2, g3, g4, g5, g6, g7, g8, g9⟩ := plain_facts hp h3
  rw [form_plain hn hp h3]
  have hr : ∀ {o : Int}, plainOp o → 1 ≤ o ∧ o ≤ 19 := by intro o h; unfold plainOp at h; omega
  cases n
  · exact ⟨nodeB_made (hr hp) h3 ⟨h2, h3'⟩ (by rw [List.length_map]; exact ⟨h6, h7⟩), hp, h3⟩
  · refine ⟨nodeB_made (hr g1) g2 ?_ (by rw [List.length_map]; exact ⟨by simpa [g5] using h6, by simpa [g6] using h7⟩), g1, g2⟩
    simp only [if_true]
    rw [g7]
    split
    · next ht => have := g8 ht; omega
    · next ht => have := g9 ht; omega
theorem form_all {C D : Fm → Prop} (cd : ∀ f, D f → ∀ x ∈ f.args, D x) (c0 : ∀ f, D f → nodeB f = true → f.op = 3 → C f ∧ C (mkOp 4 [f]))
    (c1 : ∀ f F, D f → nodeB F = true → plainOp F.op → F.op ≠ 3 → (lateB F.op = true → lateB f.op = true ∧ ∀ X ∈ F.args, (∃ x ∈ f.args, ∃ n, X = formP x n) ∨ X = mkOp 1 [] ∨ X = mkOp 2 []) → (futB F.op = true → futB f.op = true) → (∀ X ∈ F.args, C X) → C F) (f : Fm) : nodesB f = true → D f → ∀ n, C (formP f n) := by
  induction f using Fm.ind with
  | h f ih =>
    intro hf hd n
    have hn := nodesB_self hf
    have harg : ∀ x ∈ f.args, ∀ n, C (formP x n) := fun x hx => ih x hx (nodesB_arg hf hx) (cd f hd x hx)
    have two : ∀ {o v : Int} {X Y : Fm}, (o = 5 ∨ o = 6 ∨ o = 9 ∨ o = 10 ∨ o = 16 ∨ o = 17) → (v = 0 ∨ (v = 1 ∧ o = 17)) → (o = 16 ∨ o = 17 → lateB f.op = true ∧ (∃ y ∈ f.args, ∃ n, Y = formP y n) ∧ (X = mkOp 1 [] ∨ X = mkOp 2 [])) → (o = 9 ∨ o = 10 → futB f.op = true) → C X → C Y → C (.mk o ⟨#[]⟩ v 0 [X, Y]) := by
      intro o v x y ho hv hl hu hx hy
      refine c1 f _ hd (nodeB_made (by omega) (by omega) ?_ ?_) (by unfold plainOp; simp only [Fm.op]; omega) (by simp only [Fm.op]; omega) ?_ ?_ (by intro z hz; simp only [Fm.args, List.mem_cons, List.not_mem_nil, or_false] at hz; rcases hz with rfl | rfl <;> assumption)
      · rcases ho with rfl | rfl | rfl | rfl | rfl | rfl <;> rcases hv with rfl | ⟨rfl, hv⟩ <;> first | (cases hv; done) | decide
      · rcases ho with rfl | rfl | rfl | rfl | rfl | rfl <;> simp [fLeast, fMost, formRow, formsRows]
      · intro hlate
        have h16 : o = 16 ∨ o = 17 := by change lateB o = true at hlate; simp [lateB] at hlate; omega
        obtain ⟨l1, l2, l3⟩ := hl h16
        refine ⟨l1, fun z hz => ?_⟩
        simp only [Fm.args, List.mem_cons, List.not_mem_nil, or_false] at hz
        rcases hz with rfl | rfl
        · exact .inr l3
        · exact .inl l2
      · intro hfut
        exact hu (by change futB o = true at hfut; simp [futB] at hfut; omega)
    have none : ∀ {o : Int}, (o = 1 ∨ o = 2) → C (mkOp o []) := by
      intro o ho
      refine c1 f _ hd (nodeB_made (by omega) (by omega) ?_ ?_) (by unfold plainOp; simp only [mkOp, Fm.op]; omega) (by simp only [mkOp, Fm.op]; omega) ?_ ?_ (by intro z hz; cases hz)
      · rcases ho with rfl | rfl <;> decide
      · rcases ho with rfl | rfl <;> simp [fLeast, fMost, formRow, formsRows]
      · intro h; change lateB o = true at h; simp [lateB] at h; omega
      · intro h; change futB o = true at h; simp [futB] at h; omega
    have next : ∀ {x : Fm}, futB f.op = true → C x → C (mkOp 8 [x]) := by
      intro x hu hx
      exact c1 f _ hd (nodeB_made (by omega) (by omega) (by decide) (by simp [fLeast, fMost, formRow, formsRows])) (by simp [plainOp, mkOp, Fm.op]) (by simp [mkOp, Fm.op]) (by intro h; simp [mkOp, lateB, Fm.op] at h) (fun _ => hu) (by intro z hz; simp only [mkOp, Fm.args, List.mem_cons, List.not_mem_nil, or_false] at hz; subst hz; exact hx)
    have rep : ∀ {o : Int} {x : Fm}, (o = 5 ∨ o = 6) → futB f.op = true → C x → ∀ n, C (repF o n x) := by
      intro o x ho hu hx n
      induction n with
      | zero => exact hx
      | succ n ih => exact two (by omega) (.inl rfl) (by omega) (by omega) hx (next hu ih)
    rcases op_parts (nodeB_known hn) with hp | h4 | hs
    · by_cases h3 : f.op = 3
      · obtain ⟨e1, e2⟩ := form_is h3
        cases n
        · rw [e2]; exact (c0 f hd hn h3).1
        · rw [e1]; exact (c0 f hd hn h3).2
      · obtain ⟨q1, q2, q3⟩ := node_plain hn hp h3 n
        have eo : (formP f n).op = if n then fDual f.op.toNat else f.op := by rw [form_plain hn hp h3 n]; rfl
        have ea : (formP f n).args = f.args.map fun x => formP x n := by rw [form_plain hn hp h3 n]; rfl
        have hfl : lateB (formP f n).op = lateB f.op ∧ futB (formP f n).op = futB f.op := by
          rw [eo]
          rcases hp with e | e | e | e | e | e | e | e | e | e | e <;> rw [e] <;> cases n <;> decide
        refine c1 f _ hd q1 q2 q3 (fun h => ⟨by rw [← hfl.1]; exact h, fun X hX => ?_⟩) (fun h => by rw [← hfl.2]; exact h) fun X hX => ?_
        · rw [ea] at hX
          obtain ⟨y, hy, rfl⟩ := List.mem_map.1 hX
          exact .inl ⟨y, hy, n, rfl⟩
        · rw [ea] at hX
          obtain ⟨y, hy, rfl⟩ := List.mem_map.1 hX
          exact harg y hy n
    · obtain ⟨x, hx⟩ := args_one_of hn (by rw [h4]; rfl) (by rw [h4]; rfl)
      rw [form_not h4 hx]
      exact harg x (by rw [hx]; simp) _
    · obtain ⟨o, nm, v, b, a⟩ := f
      simp only [Fm.op, Fm.args] at hs harg
      rcases hs with rfl | rfl | rfl | rfl | rfl | rfl | rfl
      · obtain ⟨x, y, rfl⟩ := args_two_of hn (by rfl) (by rfl)
        have hx := harg x (by simp)
        have hy := harg y (by simp)
        cases n <;> simp only [formP, formPL, formN] <;> exact two (by omega) (.inl rfl) (by omega) (by omega) (hx _) (hy _)
      · obtain ⟨x, rfl⟩ := said_one hn (by simp [Fm.op])
        have hx := harg x (by simp)
        cases n <;> exact two (by omega) (.inl rfl) (by omega) (fun _ => rfl) (none (by omega)) (hx _)
      · obtain ⟨x, rfl⟩ := said_one hn (by simp [Fm.op])
        have hx := harg x (by simp)
        cases n <;> exact two (by omega) (.inl rfl) (by omega) (fun _ => rfl) (none (by omega)) (hx _)
      · obtain ⟨x, rfl⟩ := said_one hn (by simp [Fm.op])
        have hx := harg x (by simp)
        cases n <;> exact rep (by omega) rfl (hx _) _
      · obtain ⟨x, rfl⟩ := said_one hn (by simp [Fm.op])
        have hx := harg x (by simp)
        cases n <;> exact rep (by omega) rfl (hx _) _
      · obtain ⟨x, rfl⟩ := said_one hn (by simp [Fm.op])
        have hx := harg x (by simp)
        cases n
        · exact two (by omega) (.inl rfl) (fun _ => ⟨rfl, ⟨x, by simp [Fm.args], _, rfl⟩, .inl rfl⟩) (by omega) (none (by omega)) (hx _)
        · exact two (by omega) (.inr ⟨rfl, rfl⟩) (fun _ => ⟨rfl, ⟨x, by simp [Fm.args], _, rfl⟩, .inr rfl⟩) (by omega) (none (by omega)) (hx _)
      · obtain ⟨x, rfl⟩ := said_one hn (by simp [Fm.op])
        have hx := harg x (by simp)
        cases n
        · exact two (by omega) (.inr ⟨rfl, rfl⟩) (fun _ => ⟨rfl, ⟨x, by simp [Fm.args], _, rfl⟩, .inr rfl⟩) (by omega) (none (by omega)) (hx _)
        · exact two (by omega) (.inl rfl) (fun _ => ⟨rfl, ⟨x, by simp [Fm.args], _, rfl⟩, .inl rfl⟩) (by omega) (none (by omega)) (hx _)
theorem form_core {f : Fm} (h : nodesB f = true) (n : Bool) : nodesB (formP f n) = true ∧ coreB (formP f n) = true := by
  refine form_all (C := fun F => nodesB F = true ∧ coreB F = true) (D := fun _ => True) (fun _ _ _ _ => trivial) ?_ ?_ f h trivial n
  · intro f _ hn h3
    obtain ⟨-, -, -, -, -, -, h7⟩ := nodeB_flds hn
    have h0 : f.args = [] := List.eq_nil_of_length_eq_zero (by rw [h3] at h7; have : fMost (3 : Int).toNat = 0 := rfl; omega)
    have h1 : nodesB f = true := nodes_mk hn (by rw [h0]; intro x hx; cases hx)
    have h2 : coreB f = true := Fm.all_mk (by simp [coreNodeB, coreOpB, btwB, h3]) (by rw [h0]; intro x hx; cases hx)
    refine ⟨⟨h1, h2⟩, nodes_one (.inl rfl) h1, Fm.all_mk ?_ ?_⟩
    · simp [coreNodeB, coreOpB, btwB, mkOp, Fm.op, arg0, Fm.args]; cases f; exact h3
    · intro x hx; simp only [mkOp, Fm.args, List.mem_cons, List.not_mem_nil, or_false] at hx; subst hx; exact h2
  · intro f F _ hn hp h3 _ _ ha
    refine ⟨nodes_mk hn fun x hx => (ha x hx).1, Fm.all_mk ?_ fun x hx => (ha x hx).2⟩
    rcases hp with e | e | e | e | e | e | e | e | e | e | e <;> simp [coreNodeB, coreOpB, btwB, e]
theorem form_past {f : Fm} (h : nodesB f = true) (hp : pastB f = true) (n : Bool) : pastB (formP f n) = true := by
  refine form_all (C := fun F => pastB F = true) (D := fun f => pastB f = true) (fun _ h _ hx => Fm.all_arg h hx) ?_ ?_ f h hp n
  · intro f _ hn h3
    obtain ⟨-, -, -, -, -, -, h7⟩ := nodeB_flds hn
    have h0 : f.args = [] := List.eq_nil_of_length_eq_zero (by rw [h3] at h7; have : fMost (3 : Int).toNat = 0 := rfl; omega)
    have h2 : pastB f = true := Fm.all_mk (by simp [futB, h3]) (by rw [h0]; intro x hx; cases hx)
    refine ⟨h2, Fm.all_mk (by simp [mkOp, futB, Fm.op]) ?_⟩
    intro x hx; simp only [mkOp, Fm.args, List.mem_cons, List.not_mem_nil, or_false] at hx; subst hx; exact h2
  · intro f F hd _ _ _ _ hu ha
    refine Fm.all_mk ?_ ha
    cases e : futB F.op
    · rfl
    · have h1 := hu e
      have h2 := Fm.all_self (p := fun g => !futB g.op) hd
      simp [h1] at h2
theorem form_lay {f : Fm} (h : nodesB f = true) (hp : layB f = true) (n : Bool) : layB (formP f n) = true := by
  refine form_all (C := fun F => layB F = true) (D := fun f => layB f = true ∧ nodesB f = true) (fun _ h _ hx => ⟨Fm.all_arg h.1 hx, nodesB_arg h.2 hx⟩) ?_ ?_ f h ⟨hp, h⟩ n
  · intro f _ hn h3
    obtain ⟨-, -, -, -, -, -, h7⟩ := nodeB_flds hn
    have h0 : f.args = [] := List.eq_nil_of_length_eq_zero (by rw [h3] at h7; have : fMost (3 : Int).toNat = 0 := rfl; omega)
    have h2 : layB f = true := Fm.all_mk (by simp [lateB, h3]) (by rw [h0]; intro x hx; cases hx)
    refine ⟨h2, Fm.all_mk (by simp [mkOp, lateB, Fm.op]) ?_⟩
    intro x hx; simp only [mkOp, Fm.args, List.mem_cons, List.not_mem_nil, or_false] at hx; subst hx; exact h2
  · intro f F hd _ _ _ hl _ ha
    refine Fm.all_mk ?_ ha
    cases e : lateB F.op
    · rfl
    · obtain ⟨h1, h2⟩ := hl e
      have h3 := Fm.all_self (p := fun g => !lateB g.op || g.args.all pastB) hd.1
      simp only [h1, Bool.not_true, Bool.false_or, List.all_eq_true] at h3 ⊢
      intro X hX
      rcases h2 X hX with ⟨x, hx, m, rfl⟩ | rfl | rfl
      · exact form_past (nodesB_arg hd.2 hx) (h3 x hx) m
      · rfl
      · rfl
def gath (o : Int) : Prop := o = 5 ∨ o = 6
theorem unit_op {o : Int} (h : gath o) : (unitF o).op ≠ o ∧ (unitF o).op ≠ 4 ∧ constF (unitF o) = true := by
  rcases h with rfl | rfl <;> exact ⟨by decide, by decide, by decide⟩
theorem badB_iff {s : List Fm} {z x : Fm} : badB s z x = true ↔ x = z ∨ (x.op = 4 ∧ arg0F x ∈ s) := by
  unfold badB
  rw [Bool.or_eq_true, decide_eq_true_eq, cmpF_eq0, Bool.and_eq_true, beq_iff_eq, memB_iff]
def badL (s : List Fm) (z : Fm) : Prop := ∃ x ∈ s, x = z ∨ (x.op = 4 ∧ arg0F x ∈ s)
theorem any_bad {s : List Fm} {z : Fm} : (setF s).any (badB (setF s) z) = true ↔ badL s z := by
  rw [List.any_eq_true]
  constructor
  · rintro ⟨x, hx, h⟩
    refine ⟨x, mem_setF.1 hx, (badB_iff.1 h).imp id fun h => ⟨h.1, mem_setF.1 h.2⟩⟩
  · rintro ⟨x, hx, h⟩
    exact ⟨x, mem_setF.2 hx, badB_iff.2 (h.imp id fun h => ⟨h.1, mem_setF.2 h.2⟩)⟩
theorem settle_bad {s : List Fm} {u z : Fm} (h : badL s z) : settleF s u z = [z] := if_pos (any_bad.2 h)
theorem settle_good {s : List Fm} {u z : Fm} (h : ¬ badL s z) : settleF s u z = (setF s).filter fun x => !decide (cmpF x u = 0) := if_neg fun e => h (any_bad.1 e)
theorem mem_settle_good {s : List Fm} {u z x : Fm} (h : ¬ badL s z) : x ∈ settleF s u z ↔ x ∈ s ∧ x ≠ u := by
  rw [settle_good h, List.mem_filter, mem_setF]
  simp [cmpF_eq0]
theorem asc_filter {l : List Fm} {p : Fm → Bool} (h : Asc l) : Asc (l.filter p) := List.Pairwise.filter p h
theorem asc_settle (s : List Fm) (u z : Fm) : Asc (settleF s u z) := by
  by_cases h : badL s z
  · rw [settle_bad h]; exact List.pairwise_singleton _ _
  · rw [settle_good h]; exact asc_filter (asc_setF s)
def normF (o : Int) (s : List Fm) : Fm := nodeOf o (settleF s (unitF o) (nullF o))
theorem joinF_norm (o : Int) (l : List Fm) : joinF o l = normF o (flatF o l) := rfl
def flat1 (o : Int) (x : Fm) : List Fm := if x.op = o then x.args else [x]
theorem flatF_cons (o : Int) (x : Fm) (l : List Fm) : flatF o (x :: l) = flat1 o x ++ flatF o l := by simp [flatF, flat1]
theorem flatF_nil (o : Int) : flatF o [] = [] := rfl
theorem flat1_not {o : Int} {x : Fm} (h : x.op ≠ o) : flat1 o x = [x] := if_neg h
theorem flat1_is {o : Int} {x : Fm} (h : x.op = o) : flat1 o x = x.args := if_pos h
def Settled (o : Int) (s : List Fm) : Prop := Asc s ∧ (∀ x ∈ s, x.op ≠ o) ∧ (∀ x ∈ s, x ≠ unitF o) ∧ ¬ badL s (nullF o)
def canP (x : Fm) : Prop :=
  (gath x.op → x = mkOp x.op x.args ∧ Settled x.op x.args ∧ 2 ≤ x.args.length) ∧
  (x.op = 8 → constF (x.args.headD (mkOp 0 [])) = false) ∧
  (x.op = 9 → constF (x.args.getD 1 (mkOp 0 [])) = false ∧ (x.args.headD (mkOp 0 [])).op ≠ 2) ∧
  (x.op = 10 → constF (x.args.getD 1 (mkOp 0 [])) = false ∧ (x.args.headD (mkOp 0 [])).op ≠ 1) ∧
  (x.op = 4 → (arg0F x).op = 3)
inductive Can : Fm → Prop where
  | mk {f : Fm} (h : canP f) (ha : ∀ g ∈ f.args, Can g) : Can f
theorem Can.arg {f g : Fm} (h : Can f) (hg : g ∈ f.args) : Can g := by cases h with | mk _ ha => exact ha g hg
theorem core_not {f : Fm} (hn : nodeB f = true) (hc : coreNodeB f = true) (h : f.op = 4) : ∃ x, f.args = [x] ∧ x.op = 3 := by
  obtain ⟨x, hx⟩ := args_one_of hn (by rw [h]; rfl) (by rw [h]; rfl)
  refine ⟨x, hx, ?_⟩
  unfold coreNodeB at hc
  simp only [h, beq_self_eq_true, Bool.not_true, Bool.false_or, Bool.and_eq_true, beq_iff_eq] at hc
  have := hc.2
  rw [arg0_eq (by rw [hx]; simp)] at this
  simpa [hx] using this
theorem canon_is {f : Fm} (h : f.op = 3) : canonF f = .mk f.op f.name f.val f.bound (f.args.map canonF) := by
  rw [canonF_eq]
  unfold canonN
  rw [if_neg (by omega), if_neg (by omega), if_neg (by omega), if_neg (by omega)]
def weakB (f : Fm) : Bool := nodeB f || (decide (f.op = 5 ∨ f.op = 6) && (f.name.toList.isEmpty && (f.val == 0 && (f.bound == 0 && decide (2 ≤ f.args.length)))))
theorem weak_nodes (f : Fm) : f.nodes ≤ 1000000 → f.all weakB = true → nodesB f = true := by
  induction f using Fm.ind with
  | h f ih =>
    intro hn h
    refine nodes_mk ?_ fun x hx => ih x hx (by
      obtain ⟨k, hk, rfl⟩ := List.mem_iff_getElem.1 hx
      have h1 := Fm.nodes_get hk
      rw [Fm.nodes_eq f] at hn
      omega) (Fm.all_arg h hx)
    have h0 := Fm.all_self h
    unfold weakB at h0
    rw [Bool.or_eq_true] at h0
    rcases h0 with h0 | h0
    · exact h0
    · simp only [Bool.and_eq_true, decide_eq_true_eq, beq_iff_eq] at h0
      obtain ⟨ho, hnm, hv, hb, hl⟩ := h0
      have hlen : f.args.length ≤ 1000000 := by
        have := Fm.length_le_nodes f.args
        rw [Fm.nodes_eq f] at hn
        omega
      have e : f.name = ⟨#[]⟩ := by
        have h1 : f.name.toList = [] := by simpa using hnm
        exact bytes_inj (by rw [h1, ByteArray.toList_eq])
      have e2 : f = .mk f.op ⟨#[]⟩ 0 0 f.args := by rw [← e, ← hv]; exact Fm.ext rfl rfl rfl (by show f.bound = f.val; rw [hb, hv]) rfl
      rw [e2]
      have hm : fMost (5 : Int).toNat = 9223372036854775807 ∧ fMost (6 : Int).toNat = 9223372036854775807 ∧ fLeast (5 : Int).toNat = 2 ∧ fLeast (6 : Int).toNat = 2 := ⟨rfl, rfl, rfl, rfl⟩
      obtain ⟨m1, m2, m3, m4⟩ := hm
      rcases ho with ho | ho <;> rw [ho]
      · exact nodeB_made (by omega) (by omega) ⟨by omega, by decide⟩ ⟨by rw [m3]; omega, by rw [m1]; omega⟩
      · exact nodeB_made (by omega) (by omega) ⟨by omega, by decide⟩ ⟨by rw [m4]; omega, by rw [m2]; omega⟩
theorem weak_const : weakB (mkOp 1 []) = true ∧ weakB (mkOp 2 []) = true := by
  have h1 := Fm.all_self nodes_true
  have h2 := Fm.all_self nodes_false
  unfold weakB
  rw [h1, h2]
  exact ⟨rfl, rfl⟩
theorem weak_mk {o : Int} (ho : gath o) {l : List Fm} (hl : 2 ≤ l.length) : weakB (mkOp o l) = true := by
  unfold weakB
  have h1 : (mkOp o l).op = o := rfl
  have h2 : (mkOp o l).name = ⟨#[]⟩ := rfl
  have h3 : (mkOp o l).val = 0 := rfl
  have h4 : (mkOp o l).bound = 0 := rfl
  have h5 : (mkOp o l).args = l := rfl
  rw [h1, h2, h3, h4, h5]
  have : o = 5 ∨ o = 6 := ho
  simp [this, hl, ByteArray.toList_eq]
theorem nodeB_map {f : Fm} {l : List Fm} (hl : l.length = f.args.length) : nodeB (.mk f.op f.name f.val f.bound l) = nodeB f := by
  cases f
  unfold nodeB nameOkB
  simp only [Fm.op, Fm.name, Fm.val, Fm.bound, Fm.args] at hl ⊢
  simp only [hl]
  congr
theorem canonF_all {p : Fm → Bool} (h1 : p (mkOp 1 []) = true) (h2 : p (mkOp 2 []) = true) (hn : ∀ (o : Int) (l : List Fm), gath o → 2 ≤ l.length → p (mkOp o l) = true)
    (f : Fm) : nodesB f = true → f.all (fun g => p (.mk g.op g.name g.val g.bound (g.args.map canonF))) = true → (canonF f).all p = true := by
  induction f using Fm.ind with
  | h f ih =>
    intro h hp
    have hnb := nodesB_self h
    rw [canonF_eq]
    refine canonN_all (fun x hx => ?_) (fun h8 h0 => (nodeB_arity hnb).1 h8 (by simpa using h0)) (fun h9 => by rw [List.length_map]; exact (nodeB_arity hnb).2 h9) (Fm.all_self (p := fun g => p (.mk g.op g.name g.val g.bound (g.args.map canonF))) hp) h1 h2 (fun l hl ho => hn _ l ho hl)
    obtain ⟨y, hy, rfl⟩ := List.mem_map.1 hx
    exact ih y hy (nodesB_arg h hy) (Fm.all_arg hp hy)
theorem canon_weak {f : Fm} (h : nodesB f = true) : (canonF f).all weakB = true := by
  refine canonF_all weak_const.1 weak_const.2 (fun o l ho hl => weak_mk ho hl) f h ?_
  refine Fm.all_mono (fun g hg => ?_) f h
  unfold weakB
  rw [nodeB_map (by rw [List.length_map]), hg]; rfl
theorem canon_past {f : Fm} (h : nodesB f = true) (hp : pastB f = true) : pastB (canonF f) = true :=
  canonF_all (p := fun g => !futB g.op) rfl rfl (fun o l ho _ => by rcases ho with rfl | rfl <;> rfl) f h (Fm.all_mono (fun g hg => hg) f hp)
theorem canon_lay {f : Fm} (h : nodesB f = true) (hp : layB f = true) : layB (canonF f) = true := by
  refine canonF_all (p := fun g => !lateB g.op || g.args.all pastB) rfl rfl (fun o l ho _ => by rcases ho with rfl | rfl <;> rfl) f h ?_
  have hb : f.all (fun g => (!lateB g.op || g.args.all pastB) && nodesB g) = true := by
    rw [Fm.all_and]
    have h2 : f.all nodesB = true := by
      clear hp
      induction f using Fm.ind with
      | h f ih => exact Fm.all_mk h fun g hg => ih g hg (nodesB_arg h hg)
    have h1 : f.all (fun g => !lateB g.op || g.args.all pastB) = true := hp
    rw [h1, h2]; rfl
  refine Fm.all_mono (fun g hg => ?_) f hb
  rw [Bool.and_eq_true] at hg
  obtain ⟨g1, g2⟩ := hg
  show (!lateB g.op || (g.args.map canonF).all pastB) = true
  cases e : lateB g.op
  · rfl
  · simp only [e, Bool.not_true, Bool.false_or, List.all_eq_true] at g1 ⊢
    intro X hX
    obtain ⟨x, hx, rfl⟩ := List.mem_map.1 hX
    exact canon_past (nodesB_arg g2 hx) (g1 x hx)
theorem core_mk {o : Int} (ho : gath o) (l : List Fm) : coreNodeB (mkOp o l) = true := by
  unfold coreNodeB coreOpB btwB
  show ((decide (1 ≤ o) && decide (o ≤ 6) || _ || _) && (!(o == 4) || _)) = true
  rcases ho with rfl | rfl <;> rfl
theorem canon_core {f : Fm} (h : nodesB f = true) (hc : coreB f = true) : coreB (canonF f) = true := by
  refine canonF_all (p := coreNodeB) rfl rfl (fun o l ho _ => core_mk ho l) f h ?_
  have hb : f.all (fun g => coreNodeB g && nodeB g) = true := by
    rw [Fm.all_and]
    have h1 : f.all coreNodeB = true := hc
    have h2 : f.all nodeB = true := h
    rw [h1, h2]; rfl
  refine Fm.all_mono (fun g hg => ?_) f hb
  rw [Bool.and_eq_true] at hg
  obtain ⟨g1, g2⟩ := hg
  have g3 := g1
  unfold coreNodeB at g1 ⊢
  show (coreOpB g.op && (!(g.op == 4) || arg0 (.mk g.op g.name g.val g.bound (g.args.map canonF)) == 3)) = true
  rw [Bool.and_eq_true] at g1 ⊢
  refine ⟨g1.1, ?_⟩
  by_cases h4 : g.op = 4
  · obtain ⟨x, hx, h3⟩ := core_not g2 g3 h4
    rw [hx]
    have : arg0 (.mk g.op g.name g.val g.bound ([x].map canonF)) = (canonF x).op := rfl
    rw [this, canon_is h3]
    show (!(g.op == 4) || x.op == 3) = true
    rw [h3]; simp
  · have : (g.op == 4) = false := beq_eq_false_iff_ne.2 h4
    rw [this]; rfl
theorem depthLs_le {l : List Fm} {d : Nat} : Fm.depthL l ≤ d ↔ ∀ x ∈ l, x.depth ≤ d := by
  induction l with
  | nil => rw [Fm.depthL_nil]; simp
  | cons x l ih =>
    rw [Fm.depthL_cons]
    simp only [List.mem_cons, forall_eq_or_imp]
    rw [← ih]
    omega
theorem depth_mkOp (o : Int) (l : List Fm) : (mkOp o l).depth = Fm.depthL l + 1 := Fm.depth_eq _
theorem depth_norm {o : Int} {s : List Fm} {d : Nat} (h : ∀ x ∈ s, x.depth ≤ d) : (normF o s).depth ≤ d + 1 := by
  have hu : (unitF o).depth = 1 := by unfold unitF; split <;> rw [depth_mkOp, Fm.depthL_nil]
  have hz : (nullF o).depth = 1 := by unfold nullF; split <;> rw [depth_mkOp, Fm.depthL_nil]
  unfold normF
  by_cases hb : badL s (nullF o)
  · rw [settle_bad hb]
    show (nullF o).depth ≤ _
    omega
  · have h2 : ∀ x ∈ settleF s (unitF o) (nullF o), x.depth ≤ d := fun x hx => h x ((mem_settle_good hb).1 hx).1
    generalize settleF s (unitF o) (nullF o) = r at h2
    match r, h2 with
    | [], _ => show (unitF o).depth ≤ _; omega
    | [x], h2 => have := h2 x (by simp); show x.depth ≤ _; omega
    | x :: y :: r, h2 => show (mkOp o (x :: y :: r)).depth ≤ _; rw [depth_mkOp]; have := depthLs_le.2 h2; omega
theorem depth_flat {o : Int} {l : List Fm} {d : Nat} (h : ∀ x ∈ l, x.depth ≤ d) : ∀ x ∈ flatF o l, x.depth ≤ d := by
  intro x hx
  obtain ⟨f, hf, ⟨-, h1⟩ | ⟨-, rfl⟩⟩ := mem_flatF.1 hx
  · obtain ⟨k, hk, rfl⟩ := List.mem_iff_getElem.1 h1
    have h2 := Fm.depth_get hk
    have h3 := h f hf
    rw [Fm.depth_eq f] at h3
    omega
  · exact h x hf
theorem depth_canonF (f : Fm) : nodesB f = true → (canonF f).depth ≤ f.depth := by
  induction f using Fm.ind with
  | h f ih =>
    intro h
    have hn := nodesB_self h
    have h1 : Fm.depthL (f.args.map canonF) ≤ Fm.depthL f.args := depthLs_le.2 fun X hX => by
      obtain ⟨x, hx, rfl⟩ := List.mem_map.1 hX
      exact Nat.le_trans (ih x hx (nodesB_arg h hx)) (depthLs_le.1 (Nat.le_refl _) x hx)
    have hm := depthLs_le.1 h1
    rw [canonF_eq, Fm.depth_eq f]
    have hself : (Fm.mk f.op f.name f.val f.bound (f.args.map canonF)).depth ≤ Fm.depthL f.args + 1 := by rw [Fm.depth_eq]; exact Nat.succ_le_succ h1
    have a1 := (nodeB_arity hn).1
    have a2 := (nodeB_arity hn).2
    unfold canonN
    split
    · rw [joinF_norm]
      exact depth_norm (depth_flat hm)
    · split
      · next h8 =>
        split
        · have := a1 h8
          generalize f.args = l at this hm
          match l, this with
          | x :: r, _ => have := hm (canonF x) (by simp); show (canonF x).depth ≤ _; omega
        · exact hself
      · split
        · next h9 =>
          split
          · have := a2 (.inl h9)
            generalize f.args = l at this hm
            match l, this with
            | x :: y :: r, _ => have := hm (canonF y) (by simp); show (canonF y).depth ≤ _; omega
          · exact hself
        · split
          · next h9 =>
            split
            · have := a2 (.inr h9)
              generalize f.args = l at this hm
              match l, this with
              | x :: y :: r, _ => have := hm (canonF y) (by simp); show (canonF y).depth ≤ _; omega
            · exact hself
          · exact hself
theorem loose_parts {f : Fm} : looseB f = true ↔ f.nodes ≤ 400 ∧ f.depth ≤ 60 ∧ nodesB f = true ∧ coreB f = true ∧ layB f = true := by
  unfold looseB
  simp only [Bool.and_eq_true, decide_eq_true_eq, and_assoc]
theorem loose_canonF {f : Fm} (h : looseB f = true) : looseB (canonF f) = true := by
  obtain ⟨h1, h2, h3, h4, h5⟩ := loose_parts.1 h
  have n1 := nodes_canonF f h3
  have n2 := depth_canonF f h3
  exact loose_parts.2 ⟨by omega, by omega, weak_nodes _ (by omega) (canon_weak h3), canon_core h3 h4, canon_lay h3 h5⟩
def extN (o : Int) (b : Nat) (s d : Nat) : Nat × Nat :=
  if o = 4 then (min (s - 1) 1000, d - 1)
  else if o = 11 ∨ o = 12 ∨ o = 18 ∨ o = 19 then (min (s + 1) 1000, d)
  else if o = 13 ∨ o = 14 then (min ((s - 1) * (b + 1) + 2 * b) 1000, d - 1 + 2 * b)
  else (min s 1000, d)
mutual
def extF : Fm → Bool → Nat × Nat
  | .mk o _ _ b a, neg => if o = 3 ∧ neg = true then (2, 2) else extN o b.toNat (1 + (extL a (neg != (o == 4 || o == 7)) (neg != (o == 4))).1) ((extL a (neg != (o == 4 || o == 7)) (neg != (o == 4))).2 + 1)
def extL : List Fm → Bool → Bool → Nat × Nat
  | [], _, _ => (0, 0)
  | x :: l, p, q => ((extF x p).1 + (extL l q q).1, max (extF x p).2 (extL l q q).2)
end
def Cap (e n : Nat) : Prop := e ≤ n ∧ (e = n ∨ 1000 ≤ e)
theorem cap_min (n : Nat) : Cap (min n 1000) n := by unfold Cap; omega
theorem Cap.add {a b c d : Nat} (h : Cap a b) (k : Cap c d) : Cap (a + c) (b + d) := by unfold Cap at *; omega
theorem Cap.min {a b : Nat} (h : Cap a b) (c : Nat) : min (c + a) 1000 = min (c + b) 1000 := by unfold Cap at h; omega
theorem nodes_rep (o : Int) (g : Fm) : ∀ n : Nat, (repF o n g).nodes = g.nodes * (n + 1) + 2 * n ∧ (repF o n g).depth = g.depth + 2 * n
  | 0 => by simp [repF]
  | n + 1 => by
    obtain ⟨h1, h2⟩ := nodes_rep o g n
    have e1 : (repF o (n + 1) g).nodes = 1 + (g.nodes + (1 + (repF o n g).nodes)) := by
      rw [repF, mkOp, Fm.nodes_eq]
      simp only [Fm.args, Fm.nodesL_cons, Fm.nodesL_nil]
      rw [mkOp, Fm.nodes_eq (.mk 8 _ _ _ _)]
      simp only [Fm.args, Fm.nodesL_cons, Fm.nodesL_nil]
      omega
    have e2 : (repF o (n + 1) g).depth = max g.depth ((repF o n g).depth + 1) + 1 := by
      rw [repF, mkOp, Fm.depth_eq]
      simp only [Fm.args, Fm.depthL_cons, Fm.depthL_nil]
      rw [mkOp, Fm.depth_eq (.mk 8 _ _ _ _)]
      simp only [Fm.args, Fm.depthL_cons, Fm.depthL_nil]
      omega
    rw [e1, e2, h1, h2]
    have e3 : g.nodes * (n + 1 + 1) = g.nodes * (n + 1) + g.nodes := by rw [Nat.mul_add g.nodes (n + 1) 1, Nat.mul_one]
    constructor
    · rw [e3]; omega
    · omega
theorem extF_eq (f : Fm) (neg : Bool) : extF f neg = if f.op = 3 ∧ neg = true then (2, 2) else extN f.op f.bound.toNat (1 + (extL f.args (neg != (f.op == 4 || f.op == 7)) (neg != (f.op == 4))).1) ((extL f.args (neg != (f.op == 4 || f.op == 7)) (neg != (f.op == 4))).2 + 1) := by cases f; rw [extF]; rfl
theorem ext_list (a : List Fm) (h : ∀ x ∈ a, ∀ n, extF x n = (min (formP x n).nodes 1000, (formP x n).depth)) : ∀ p q, Cap (extL a p q).1 (Fm.nodesL (formPL a p q)) ∧ (extL a p q).2 = Fm.depthL (formPL a p q) := by
  induction a with
  | nil => intro p q; rw [extL, formPL, Fm.nodesL_nil, Fm.depthL_nil]; exact ⟨⟨Nat.le_refl _, .inl rfl⟩, rfl⟩
  | cons x l ih =>
    intro p q
    obtain ⟨h1, h2⟩ := ih (fun y hy => h y (by simp [hy])) q q
    rw [extL, formPL, Fm.nodesL_cons, Fm.depthL_cons, h x (by simp) p]
    exact ⟨(cap_min _).add h1, by show max _ _ = _; rw [h2]⟩
theorem mk_nodes (o : Int) (n : ByteArray) (v b : Int) (l : List Fm) : (Fm.mk o n v b l).nodes = 1 + Fm.nodesL l := Fm.nodes_eq _
theorem mk_depth (o : Int) (n : ByteArray) (v b : Int) (l : List Fm) : (Fm.mk o n v b l).depth = Fm.depthL l + 1 := Fm.depth_eq _
theorem ext_form (f : Fm) : nodesB f = true → ∀ neg, extF f neg = (min (formP f neg).nodes 1000, (formP f neg).depth) := by
  induction f using Fm.ind with
  | h f ih =>
    intro hf neg
    have hn := nodesB_self hf
    have harg : ∀ y ∈ f.args, ∀ n, extF y n = (min (formP y n).nodes 1000, (formP y n).depth) := fun y hy => ih y hy (nodesB_arg hf hy)
    have hL := ext_list f.args harg
    rcases op_parts (nodeB_known hn) with hp | h4 | hs
    · by_cases h3 : f.op = 3
      · obtain ⟨-, -, -, -, -, -, h7⟩ := nodeB_flds hn
        have h0 : f.args = [] := List.eq_nil_of_length_eq_zero (by rw [h3] at h7; have : fMost (3 : Int).toNat = 0 := rfl; omega)
        obtain ⟨e1, e2⟩ := form_is h3
        have n1 : f.nodes = 1 := by rw [Fm.nodes_eq, h0, Fm.nodesL_nil]
        have n2 : f.depth = 1 := by rw [Fm.depth_eq, h0, Fm.depthL_nil]
        cases neg
        · rw [e2, extF_eq, if_neg (by simp), h0, extL, n1, n2, h3]; rfl
        · rw [e1, extF_eq, if_pos ⟨h3, rfl⟩, mkOp, mk_nodes, mk_depth, Fm.nodesL_cons, Fm.nodesL_nil, Fm.depthL_cons, Fm.depthL_nil, n1, n2]; rfl
      · have h47 : f.op ≠ 4 ∧ f.op ≠ 7 := by unfold plainOp at hp; omega
        have b4 : (f.op == 4) = false := beq_eq_false_iff_ne.2 h47.1
        have b7 : (f.op == 7) = false := beq_eq_false_iff_ne.2 h47.2
        obtain ⟨c1, c2⟩ := hL neg neg
        have hform : ∃ o' n' v' b', formP f neg = .mk o' n' v' b' (formPL f.args neg neg) := by
          cases neg
          · exact ⟨_, _, _, _, by rw [form_pos hn hp, formPL_same]⟩
          · exact ⟨_, _, _, _, by rw [form_neg hn hp h3, formPL_same]⟩
        obtain ⟨o', n', v', b', e⟩ := hform
        have hq : extN f.op f.bound.toNat (1 + (extL f.args neg neg).1) ((extL f.args neg neg).2 + 1) = (min (1 + (extL f.args neg neg).1) 1000, (extL f.args neg neg).2 + 1) := by
          unfold extN
          unfold plainOp at hp
          rw [if_neg (by omega), if_neg (by omega), if_neg (by omega)]
        rw [extF_eq, if_neg (by simp [h3]), b4, b7]
        simp only [Bool.or_false, Bool.bne_false]
        rw [hq, e, mk_nodes, mk_depth, c1.min, c2]
    · obtain ⟨y, hy⟩ := args_one_of hn (by rw [h4]; rfl) (by rw [h4]; rfl)
      rw [form_not h4 hy, extF_eq, if_neg (by rw [h4]; simp), hy, h4]
      have hyy := harg y (by rw [hy]; simp) (!neg)
      have e1 : (neg != ((4 : Int) == 4 || (4 : Int) == 7)) = !neg := by cases neg <;> rfl
      rw [e1, extL, extL, hyy]
      unfold extN
      rw [if_pos rfl]
      have := (formP y !neg).depth_pos
      simp only [Prod.mk.injEq]
      constructor
      · show min (1 + (min _ 1000 + 0) - 1) 1000 = _; omega
      · show max _ 0 + 1 - 1 = _; omega
    · obtain ⟨o, nm, v, b, a⟩ := f
      simp only [Fm.op, Fm.args] at hs harg hL
      have one : ∀ (y : Fm), a = [y] → ∀ n, extF y n = (min (formP y n).nodes 1000, (formP y n).depth) := fun y hy n => harg y (by rw [hy]; simp) n
      have hbnd := (nodeB_flds hn).2.2.2.1
      rcases hs with rfl | rfl | rfl | rfl | rfl | rfl | rfl
      · obtain ⟨c1, c2⟩ := hL (!neg) neg
        rw [extF_eq, if_neg (by simp [Fm.op]), formP_eq]
        have e1 : (neg != ((Fm.mk 7 nm v b a).op == 4 || (Fm.mk 7 nm v b a).op == 7)) = !neg := by cases neg <;> rfl
        have e2 : (neg != ((Fm.mk 7 nm v b a).op == 4)) = neg := by cases neg <;> rfl
        rw [e1, e2]
        show extN 7 b.toNat (1 + (extL a (!neg) neg).1) ((extL a (!neg) neg).2 + 1) = (min (mkOp (if neg = true then 5 else 6) (formPL a (!neg) neg)).nodes 1000, _)
        show (min (1 + (extL a (!neg) neg).1) 1000, (extL a (!neg) neg).2 + 1) = (min (mkOp (if neg = true then 5 else 6) (formPL a (!neg) neg)).nodes 1000, (mkOp (if neg = true then 5 else 6) (formPL a (!neg) neg)).depth)
        rw [mkOp, mk_nodes, mk_depth, c1.min, c2]
      all_goals
        obtain ⟨y, rfl⟩ := said_one hn (by simp [Fm.op])
        have hy := one y rfl neg
        have hdp := (formP y neg).depth_pos
        have hnp := (formP y neg).nodes_pos
        simp only [Fm.bound] at hbnd
        rw [extF_eq, if_neg (by simp [Fm.op]), formP_eq]
        simp only [Fm.op, Fm.args, Fm.bound, extL, formPL]
        have e11 : (neg != ((11 : Int) == 4 || (11 : Int) == 7)) = neg := by cases neg <;> rfl
        have e12 : (neg != ((12 : Int) == 4 || (12 : Int) == 7)) = neg := by cases neg <;> rfl
        have e13 : (neg != ((13 : Int) == 4 || (13 : Int) == 7)) = neg := by cases neg <;> rfl
        have e14 : (neg != ((14 : Int) == 4 || (14 : Int) == 7)) = neg := by cases neg <;> rfl
        have e18 : (neg != ((18 : Int) == 4 || (18 : Int) == 7)) = neg := by cases neg <;> rfl
        have e19 : (neg != ((19 : Int) == 4 || (19 : Int) == 7)) = neg := by cases neg <;> rfl
        have hrep := fun o' => nodes_rep o' (formP y neg) b.toNat
        have hbig : 1000 ≤ (formP y neg).nodes → min (1000 * (b.toNat + 1) + 2 * b.toNat) 1000 = 1000 ∧ min ((formP y neg).nodes * (b.toNat + 1) + 2 * b.toNat) 1000 = 1000 := fun h => by
          have h1 : 1000 * 1 ≤ 1000 * (b.toNat + 1) := Nat.mul_le_mul_left _ (by omega)
          have h2 : (formP y neg).nodes * 1 ≤ (formP y neg).nodes * (b.toNat + 1) := Nat.mul_le_mul_left _ (by omega)
          omega
        first
          | (rw [e11, hy]; (cases neg <;> (simp [extN, formN, mkOp, mk_nodes, mk_depth, Fm.nodesL_cons, Fm.nodesL_nil, Fm.depthL_cons, Fm.depthL_nil]; omega)))
          | (rw [e12, hy]; (cases neg <;> (simp [extN, formN, mkOp, mk_nodes, mk_depth, Fm.nodesL_cons, Fm.nodesL_nil, Fm.depthL_cons, Fm.depthL_nil]; omega)))
          | (rw [e18, hy]; (cases neg <;> (simp [extN, formN, mkLate, mkOp, mk_nodes, mk_depth, Fm.nodesL_cons, Fm.nodesL_nil, Fm.depthL_cons, Fm.depthL_nil]; omega)))
          | (rw [e19, hy]; (cases neg <;> (simp [extN, formN, mkLate, mkOp, mk_nodes, mk_depth, Fm.nodesL_cons, Fm.nodesL_nil, Fm.depthL_cons, Fm.depthL_nil]; omega)))
          | (rw [e13, hy]; by_cases hb : 1000 ≤ (formP y neg).nodes
             · obtain ⟨g1, g2⟩ := hbig hb
               have em : min (formP y neg).nodes 1000 = 1000 := by omega
               cases neg <;> (simp [extN, formN, (hrep _).1, (hrep _).2, em, g1, g2] <;> omega)
             · have em : min (formP y neg).nodes 1000 = (formP y neg).nodes := by omega
               cases neg <;> (simp [extN, formN, (hrep _).1, (hrep _).2, em] <;> omega))
          | (rw [e14, hy]; by_cases hb : 1000 ≤ (formP y neg).nodes
             · obtain ⟨g1, g2⟩ := hbig hb
               have em : min (formP y neg).nodes 1000 = 1000 := by omega
               cases neg <;> (simp [extN, formN, (hrep _).1, (hrep _).2, em, g1, g2] <;> omega)
             · have em : min (formP y neg).nodes 1000 = (formP y neg).nodes := by omega
               cases neg <;> (simp [extN, formN, (hrep _).1, (hrep _).2, em] <;> omega))
theorem extL_snoc (l : List Fm) (x : Fm) : ∀ p q, extL (l ++ [x]) p q = ((extL l p q).1 + (extF x (if l.length = 0 then p else q)).1, max (extL l p q).2 (extF x (if l.length = 0 then p else q)).2) := by
  induction l with
  | nil => intro p q; simp [extL]
  | cons y l ih =>
    intro p q
    rw [List.cons_append, extL, extL, ih q q]
    simp only [ite_self, List.length_cons, Nat.add_one_ne_zero, if_false]
    ext
    · show _ + (_ + _) = _ + _ + _; omega
    · show max _ (max _ _) = max (max _ _) _; omega
theorem extL_take {l : List Fm} {k : Nat} (h : k < l.length) (p q : Bool) : extL (l.take (k + 1)) p q = ((extL (l.take k) p q).1 + (extF l[k] (if k = 0 then p else q)).1, max (extL (l.take k) p q).2 (extF l[k] (if k = 0 then p else q)).2) := by
  rw [List.take_succ_eq_append_getElem h, extL_snoc, List.length_take, Nat.min_eq_left (by omega)]
theorem extL_nil (p q : Bool) : extL [] p q = (0, 0) := by rw [extL]
theorem ext_bounds (f : Fm) : nodesB f = true → ∀ n, (extF f n).1 ≤ 1000 ∧ (extF f n).2 ≤ 40 * f.nodes := by
  induction f using Fm.ind with
  | h f ih =>
    intro hf n
    have hl : ∀ a : List Fm, (∀ x ∈ a, ∀ n, (extF x n).1 ≤ 1000 ∧ (extF x n).2 ≤ 40 * x.nodes) → ∀ p q, (extL a p q).2 ≤ 40 * Fm.nodesL a := by
      intro a
      induction a with
      | nil => intro _ p q; rw [extL]; simp
      | cons x l ihl =>
        intro h p q
        have h1 := (h x (by simp) p).2
        have h2 := ihl (fun y hy => h y (by simp [hy])) q q
        rw [extL, Fm.nodesL_cons]
        show max _ _ ≤ _
        omega
    have h1 := hl f.args (fun x hx => ih x hx (nodesB_arg hf hx)) (n != (f.op == 4 || f.op == 7)) (n != (f.op == 4))
    have hb : f.bound.toNat ≤ 9 := by
      obtain ⟨-, -, -, -, h5, -, -⟩ := nodeB_flds (nodesB_self hf)
      have : fBound f.op.toNat ≤ 9 := by
        rcases op_cases (nodeB_known (nodesB_self hf)) with e | e | e | e | e | e | e | e | e | e | e | e | e | e | e | e | e | e | e <;> rw [e] <;> decide
      omega
    rw [extF_eq, Fm.nodes_eq f]
    generalize extL f.args (n != (f.op == 4 || f.op == 7)) (n != (f.op == 4)) = e at h1
    split
    · exact ⟨by show (2 : Nat) ≤ _; omega, by show (2 : Nat) ≤ _; omega⟩
    · unfold extN
      split
      · exact ⟨Nat.min_le_right _ _, by show e.2 + 1 - 1 ≤ _; omega⟩
      · split
        · exact ⟨Nat.min_le_right _ _, by show e.2 + 1 ≤ _; omega⟩
        · split
          · exact ⟨Nat.min_le_right _ _, by show e.2 + 1 - 1 + 2 * _ ≤ _; omega⟩
          · exact ⟨Nat.min_le_right _ _, by show e.2 + 1 ≤ _; omega⟩
theorem extL_sum (a : List Fm) (h : ∀ x ∈ a, nodesB x = true) : ∀ p q, (extL a p q).1 ≤ 1000 * a.length := by
  induction a with
  | nil => intro p q; rw [extL]; simp
  | cons x l ih =>
    intro p q
    have h1 := (ext_bounds x (h x (by simp)) p).1
    have h2 := ih (fun y hy => h y (by simp [hy])) q q
    rw [extL, List.length_cons]
    show _ + _ ≤ _
    omega
theorem extL_depth (a : List Fm) (h : ∀ x ∈ a, nodesB x = true) : ∀ p q, (extL a p q).2 ≤ 40 * Fm.nodesL a := by
  induction a with
  | nil => intro p q; rw [extL]; simp
  | cons x l ih =>
    intro p q
    have h1 := (ext_bounds x (h x (by simp)) p).2
    have h2 := ih (fun y hy => h y (by simp [hy])) q q
    rw [extL, Fm.nodesL_cons]
    show max _ _ ≤ _
    omega
theorem flatF_append (o : Int) (a b : List Fm) : flatF o (a ++ b) = flatF o a ++ flatF o b := by simp [flatF]
def NK (f : Fm) : Prop := nodesB f = true ∧ coreB f = true
theorem NK.arg {f g : Fm} (h : NK f) (hg : g ∈ f.args) : NK g := ⟨nodesB_arg h.1 hg, Fm.all_arg h.2 hg⟩
theorem NK.node {f : Fm} (h : NK f) : nodeB f = true := nodesB_self h.1
theorem NK.core {f : Fm} (h : NK f) : coreNodeB f = true := Fm.all_self h.2
theorem NK.ops {f : Fm} (h : NK f) : f.op = 4 ∨ plainOp f.op := by
  have := h.core
  unfold coreNodeB coreOpB btwB at this
  simp only [Bool.and_eq_true, Bool.or_eq_true, decide_eq_true_eq] at this
  unfold plainOp
  have := this.1
  omega
theorem const_eq {f : Fm} (h : nodeB f = true) (ho : f.op = 1 ∨ f.op = 2) : f = mkOp f.op [] := by
  obtain ⟨h1, h2, h3, h4, h5, -, h7⟩ := nodeB_flds h
  have hv : fVal f.op.toNat = 0 ∧ fBound f.op.toNat = 0 ∧ fMost f.op.toNat = 0 := by rcases ho with e | e <;> rw [e] <;> exact ⟨rfl, rfl, rfl⟩
  obtain ⟨v1, v2, v3⟩ := hv
  have h0 : f.args = [] := List.eq_nil_of_length_eq_zero (by omega)
  have hn : f.name = ⟨#[]⟩ := h1 (by omega)
  exact Fm.ext rfl hn (by show f.val = 0; omega) (by show f.bound = 0; omega) h0
where
  canon_gath0 {o : Int} (ho : gath o) {n : ByteArray} {v b : Int} {l : List Fm} : canonF (.mk o n v b l) = normF o (flatF o (l.map canonF)) := by
    rw [canonF_eq]
    unfold canonN
    rw [if_pos (show (Fm.mk o n v b l).op = 5 ∨ (Fm.mk o n v b l).op = 6 from ho)]
    rfl
theorem NK.canon {f : Fm} (h : NK f) (hn : f.nodes ≤ 1000000) : NK (canonF f) :=
  ⟨weak_nodes _ (Nat.le_trans (nodes_canonF f h.1) hn) (canon_weak h.1), canon_core h.1 h.2⟩
def gives (o : Int) (f : Fm) : List Fm := flat1 o (canonF f)
def gatherL (zo uo : Int) : List Fm → List Fm → Option (List Fm)
  | [], l => some l
  | p :: ps, l => if p.op = zo then none else gatherL zo uo ps (if p.op = uo then l else insF p l)
def opposedB (l : List Fm) : Bool := l.any fun y => l.any fun x => x.op == 4 && decide (cmpF (arg0F x) y = 0)
def gatheredF (op : Int) (args : List Fm) : Fm :=
  match gatherL (nullF op).op (unitF op).op (flatF op args) [] with
  | none => nullF op
  | some l => if opposedB l = true then nullF op else nodeOf op l
theorem opposed_iff {l : List Fm} : opposedB l = true ↔ ∃ x ∈ l, x.op = 4 ∧ arg0F x ∈ l := by
  unfold opposedB
  simp only [List.any_eq_true, Bool.and_eq_true, beq_iff_eq, decide_eq_true_eq, cmpF_eq0]
  constructor
  · rintro ⟨y, hy, x, hx, h4, rfl⟩
    exact ⟨x, hx, h4, hy⟩
  · rintro ⟨x, hx, h4, h⟩
    exact ⟨_, h, x, hx, h4, rfl⟩
theorem gatherL_spec {zo uo : Int} : ∀ (ps l : List Fm), Asc l → match gatherL zo uo ps l with
    | none => ∃ p ∈ ps, p.op = zo
    | some m => (∀ p ∈ ps, p.op ≠ zo) ∧ Asc m ∧ ∀ x, x ∈ m ↔ x ∈ l ∨ (x ∈ ps ∧ x.op ≠ uo)
  | [], l, h => by rw [gatherL]; exact ⟨(fun p hp => by cases hp), h, (fun x => by simp)⟩
  | p :: ps, l, h => by
    rw [gatherL]
    by_cases hz : p.op = zo
    · rw [if_pos hz]; exact ⟨p, by simp, hz⟩
    · rw [if_neg hz]
      have ha : Asc (if p.op = uo then l else insF p l) := by split; exact h; exact asc_insF h
      have ih := gatherL_spec (zo := zo) (uo := uo) ps _ ha
      generalize gatherL zo uo ps (if p.op = uo then l else insF p l) = r at ih ⊢
      cases r with
      | none =>
        obtain ⟨q, hq, e⟩ := ih
        exact ⟨q, by simp [hq], e⟩
      | some m =>
        obtain ⟨h1, h2, h3⟩ := ih
        refine ⟨fun q hq => ?_, h2, fun x => ?_⟩
        · rcases List.mem_cons.1 hq with rfl | hq
          · exact hz
          · exact h1 q hq
        · rw [h3 x]
          by_cases hu : p.op = uo
          · rw [if_pos hu]
            constructor
            · rintro (h | ⟨h, h'⟩)
              · exact .inl h
              · exact .inr ⟨by simp [h], h'⟩
            · rintro (h | ⟨h, h'⟩)
              · exact .inl h
              · rcases List.mem_cons.1 h with rfl | h
                · exact absurd hu h'
                · exact .inr ⟨h, h'⟩
          · rw [if_neg hu, mem_insF]
            constructor
            · rintro ((rfl | h) | ⟨h, h'⟩)
              · exact .inr ⟨by simp, hu⟩
              · exact .inl h
              · exact .inr ⟨by simp [h], h'⟩
            · rintro (h | ⟨h, h'⟩)
              · exact .inl (.inr h)
              · rcases List.mem_cons.1 h with rfl | h
                · exact .inl (.inl rfl)
                · exact .inr ⟨h, h'⟩
theorem null_unit_ops {o : Int} (ho : gath o) : ((nullF o).op = 1 ∨ (nullF o).op = 2) ∧ ((unitF o).op = 1 ∨ (unitF o).op = 2) ∧ nullF o = mkOp (nullF o).op [] ∧ unitF o = mkOp (unitF o).op [] := by
  rcases ho with rfl | rfl
  · exact ⟨.inr rfl, .inl rfl, rfl, rfl⟩
  · exact ⟨.inl rfl, .inr rfl, rfl, rfl⟩
theorem gathered_join {o : Int} (ho : gath o) {args : List Fm} (h : ∀ x ∈ flatF o args, nodeB x = true ∧ (x.op = 4 → arg0F x ≠ unitF o)) : gatheredF o args = joinF o args := by
  obtain ⟨n1, n2, n3, n4⟩ := null_unit_ops ho
  have isZ : ∀ x ∈ flatF o args, (x.op = (nullF o).op ↔ x = nullF o) := fun x hx => ⟨fun e => by rw [const_eq (h x hx).1 (by rw [e]; exact n1), e]; exact n3.symm, fun e => by rw [e]⟩
  have isU : ∀ x ∈ flatF o args, (x.op = (unitF o).op ↔ x = unitF o) := fun x hx => ⟨fun e => by rw [const_eq (h x hx).1 (by rw [e]; exact n2), e]; exact n4.symm, fun e => by rw [e]⟩
  have hs := gatherL_spec (zo := (nullF o).op) (uo := (unitF o).op) (flatF o args) [] List.Pairwise.nil
  rw [joinF_norm]
  unfold gatheredF normF
  generalize gatherL (nullF o).op (unitF o).op (flatF o args) [] = r at hs
  cases r with
  | none =>
    obtain ⟨p, hp, e⟩ := hs
    rw [settle_bad ⟨p, hp, .inl ((isZ p hp).1 e)⟩]
    rfl
  | some m =>
    obtain ⟨h1, h2, h3⟩ := hs
    have hm : ∀ x, x ∈ m ↔ x ∈ flatF o args ∧ x ≠ unitF o := fun x => by
      rw [h3 x]
      constructor
      · rintro (h | ⟨h, h'⟩)
        · cases h
        · exact ⟨h, fun e => h' ((isU x h).2 e)⟩
      · rintro ⟨h, h'⟩
        exact .inr ⟨h, fun e => h' ((isU x h).1 e)⟩
    have hun := unit_op ho
    show (if opposedB m = true then nullF o else nodeOf o m) = _
    by_cases hb : badL (flatF o args) (nullF o)
    · have : opposedB m = true := by
        obtain ⟨x, hx, e | ⟨h4, ha⟩⟩ := hb
        · exact absurd ((isZ x hx).2 e) (h1 x hx)
        · exact opposed_iff.2 ⟨x, (hm x).2 ⟨hx, fun e => hun.2.1 (by rw [← e]; exact h4)⟩, h4, (hm _).2 ⟨ha, (h x hx).2 h4⟩⟩
      rw [if_pos this, settle_bad hb]
      rfl
    · have : ¬ opposedB m = true := fun e => by
        obtain ⟨x, hx, h4, ha⟩ := opposed_iff.1 e
        exact hb ⟨x, ((hm x).1 hx).1, .inr ⟨h4, ((hm _).1 ha).1⟩⟩
      rw [if_neg this]
      congr 1
      exact asc_unique h2 (asc_settle _ _ _) fun x => by rw [hm x, mem_settle_good hb]
theorem loose_NK {f : Fm} (h : looseB f = true) : NK f := ⟨(loose_parts.1 h).2.2.1, (loose_parts.1 h).2.2.2.1⟩
theorem flat_canon {o : Int} (ho : gath o) {l : List Fm} (h : ∀ x ∈ l, NK x ∧ x.nodes ≤ 1000000) : ∀ x ∈ flatF o (l.map canonF), nodeB x = true ∧ (x.op = 4 → arg0F x ≠ unitF o ∧ 0 < x.args.length) := by
  intro x hx
  obtain ⟨f, hf, hcase⟩ := mem_flatF.1 hx
  obtain ⟨g, hg, rfl⟩ := List.mem_map.1 hf
  have hk := (h g hg).1.canon (h g hg).2
  have hkx : NK x := by
    rcases hcase with ⟨-, hm⟩ | ⟨-, rfl⟩
    · exact hk.arg hm
    · exact hk
  refine ⟨hkx.node, fun h4 => ?_⟩
  obtain ⟨y, ha, hy⟩ := core_not hkx.node hkx.core h4
  have h0 : arg0F x = y := by unfold arg0F; rw [ha]; rfl
  refine ⟨fun e => ?_, by rw [ha]; simp⟩
  rw [h0] at e
  rw [e] at hy
  have := (null_unit_ops ho).2.1
  omega
theorem gathered_canon {o : Int} (ho : gath o) {l : List Fm} (h : ∀ x ∈ l, NK x ∧ x.nodes ≤ 1000000) : gatheredF o (l.map canonF) = joinF o (l.map canonF) :=
  gathered_join ho fun x hx => ⟨(flat_canon ho h x hx).1, fun h4 => ((flat_canon ho h x hx).2 h4).1⟩
theorem flat_len {o : Int} {l : List Fm} (h : ∀ x ∈ l, NK x) : (flatF o (l.map canonF)).length ≤ Fm.nodesL l :=
  Nat.le_trans (len_nodesL _) (Nat.le_trans (nodesL_flatF o _) (nodesL_canonF fun x hx => (h x hx).1))

end Go.Proofs.YtbnnjbfbifihaaaGreatDoor
