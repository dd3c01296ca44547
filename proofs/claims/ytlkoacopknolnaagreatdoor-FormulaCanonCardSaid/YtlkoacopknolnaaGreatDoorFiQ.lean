/-
  Canonical forms, plainly: a node of a canonical form is settled; a list's normal form hangs on its members but for units; canonical forms are their own.
-/
import Derived.Test.YtlkoacopknolnaaGreatDoorFcR
import Derived.Test.YtlkoacopknolnaaGreatDoorFiA
namespace Go.Proofs.YtlkoacopknolnaaGreatDoor

/-- a conjunction or disjunction -/
def gath (o : Int) : Prop := o = 5 ∨ o = 6
theorem unit_op {o : Int} (h : gath o) : (unitF o).op ≠ o ∧ (unitF o).op ≠ 4 ∧ constF (unitF o) = true := by
  rcases h with rfl | rfl <;> exact ⟨by decide, by decide, by decide⟩
theorem null_op {o : Int} (h : gath o) : (nullF o).op ≠ o ∧ (nullF o).op ≠ 4 ∧ constF (nullF o) = true := by
  rcases h with rfl | rfl <;> exact ⟨by decide, by decide, by decide⟩
theorem unit_null {o : Int} (h : gath o) : unitF o ≠ nullF o := by
  intro e
  have : (unitF o).op = (nullF o).op := by rw [e]
  rcases h with rfl | rfl <;> revert this <;> decide
theorem badB_iff {s : List Fm} {z x : Fm} : badB s z x = true ↔ x = z ∨ (x.op = 4 ∧ arg0F x ∈ s) := by
  unfold badB
  rw [Bool.or_eq_true, decide_eq_true_eq, cmpF_eq0, Bool.and_eq_true, beq_iff_eq, memB_iff]
/-- a list that is false (of conjunctions), true (of disjunctions) -/
def badL (s : List Fm) (z : Fm) : Prop := ∃ x ∈ s, x = z ∨ (x.op = 4 ∧ arg0F x ∈ s)
theorem any_bad {s : List Fm} {z : Fm} : (setF s).any (badB (setF s) z) = true ↔ badL s z := by
  rw [List.any_eq_true]
  constructor
  · rintro ⟨x, hx, h⟩
    refine ⟨x, mem_setF.1 hx, (badB_iff.1 h).imp id fun h => ⟨h.1, mem_setF.1 h.2⟩⟩
  · rintro ⟨x, hx, h⟩
    exact ⟨x, mem_setF.2 hx, badB_iff.2 (h.imp id fun h => ⟨h.1, mem_setF.2 h.2⟩)⟩
theorem settle_bad {s : List Fm} {u z : Fm} (h : badL s z) : settleF s u z = [z] := if_pos (any_bad.2 h)
theorem settle_good {s : List Fm} {u z : Fm} (h : ¬ badL s z) : settleF s u z = (setF s).filter fun x => !decide (cmpF x u = 0) := if_neg fun e => h (any_bad.1 e)
theorem mem_settle_good {s : List Fm} {u z x : Fm} (h : ¬ badL s z) : x ∈ settleF s u z ↔ x ∈ s ∧ x ≠ u := by
  rw [settle_good h, List.mem_filter, mem_setF]
  simp [cmpF_eq0]
theorem asc_filter {l : List Fm} {p : Fm → Bool} (h : Asc l) : Asc (l.filter p) := List.Pairwise.filter p h
theorem asc_settle (s : List Fm) (u z : Fm) : Asc (settleF s u z) := by
  by_cases h : badL s z
  · rw [settle_bad h]; exact List.pairwise_singleton _ _
  · rw [settle_good h]; exact asc_filter (asc_setF s)
theorem badL_mono {s t : List Fm} {z : Fm} (h : ∀ x ∈ s, x ∈ t) : badL s z → badL t z := by
  rintro ⟨x, hx, e⟩
  exact ⟨x, h x hx, e.imp id fun e => ⟨e.1, h _ e.2⟩⟩

/-- negations are of formulas that are no units -/
def lits (u : Fm) (s : List Fm) : Prop := ∀ x ∈ s, x.op = 4 → arg0F x ≠ u
/-- settled lists with the same members but for units are the same -/
theorem settle_congr {s t : List Fm} {u z : Fm} (hu : u.op ≠ 4) (huz : u ≠ z) (hs : lits u s) (ht : lits u t) (h : ∀ x, x ≠ u → (x ∈ s ↔ x ∈ t)) : settleF s u z = settleF t u z := by
  have hb : ∀ {s t : List Fm}, lits u s → (∀ x, x ≠ u → (x ∈ s ↔ x ∈ t)) → badL s z → badL t z := by
    intro s t hs h
    rintro ⟨x, hx, e⟩
    have hxu : x ≠ u := by
      rintro rfl
      rcases e with e | e
      · exact huz e
      · exact hu e.1
    exact ⟨x, (h x hxu).1 hx, e.imp id fun e => ⟨e.1, (h _ (hs x hx e.1)).1 e.2⟩⟩
  by_cases g : badL s z
  · rw [settle_bad g, settle_bad (hb hs h g)]
  · have g' : ¬ badL t z := fun e => g (hb ht (fun x hx => (h x hx).symm) e)
    refine asc_unique (asc_settle _ _ _) (asc_settle _ _ _) fun x => ?_
    rw [mem_settle_good g, mem_settle_good g']
    exact ⟨fun e => ⟨(h x e.2).1 e.1, e.2⟩, fun e => ⟨(h x e.2).2 e.1, e.2⟩⟩
theorem settle_same {s t : List Fm} {u z : Fm} (h : ∀ x, x ∈ s ↔ x ∈ t) : settleF s u z = settleF t u z := by
  unfold settleF
  rw [setF_congr h]

/-- the normal form of a list under an operator -/
def normF (o : Int) (s : List Fm) : Fm := nodeOf o (settleF s (unitF o) (nullF o))
theorem joinF_norm (o : Int) (l : List Fm) : joinF o l = normF o (flatF o l) := rfl
theorem norm_same {o : Int} {s t : List Fm} (h : ∀ x, x ∈ s ↔ x ∈ t) : normF o s = normF o t := by unfold normF; rw [settle_same h]
/-- what a formula gives to a list -/
def flat1 (o : Int) (x : Fm) : List Fm := if x.op = o then x.args else [x]
theorem flatF_cons (o : Int) (x : Fm) (l : List Fm) : flatF o (x :: l) = flat1 o x ++ flatF o l := by simp [flatF, flat1]
theorem flatF_nil (o : Int) : flatF o [] = [] := rfl
theorem flat1_not {o : Int} {x : Fm} (h : x.op ≠ o) : flat1 o x = [x] := if_neg h
theorem flat1_is {o : Int} {x : Fm} (h : x.op = o) : flat1 o x = x.args := if_pos h

/-- a list of which a canonical node may be made -/
def Settled (o : Int) (s : List Fm) : Prop := Asc s ∧ (∀ x ∈ s, x.op ≠ o) ∧ (∀ x ∈ s, x ≠ unitF o) ∧ ¬ badL s (nullF o)
theorem settled_settle {o : Int} {s : List Fm} (hs : ∀ x ∈ s, x.op ≠ o) (hb : ¬ badL s (nullF o)) : Settled o (settleF s (unitF o) (nullF o)) :=
  ⟨asc_settle _ _ _, fun _ hx => hs _ ((mem_settle_good hb).1 hx).1, fun _ hx => ((mem_settle_good hb).1 hx).2, fun e => hb (badL_mono (fun _ hx => ((mem_settle_good hb).1 hx).1) e)⟩
theorem settle_settled {o : Int} {s : List Fm} (h : Settled o s) : settleF s (unitF o) (nullF o) = s := by
  obtain ⟨h1, -, h3, h4⟩ := h
  refine asc_unique (asc_settle _ _ _) h1 fun x => ?_
  rw [mem_settle_good h4]
  exact ⟨fun e => e.1, fun e => ⟨e, h3 x e⟩⟩

/-- a canonical node -/
def canP (x : Fm) : Prop :=
  (gath x.op → x = mkOp x.op x.args ∧ Settled x.op x.args ∧ 2 ≤ x.args.length) ∧
  (x.op = 8 → constF (x.args.headD (mkOp 0 [])) = false) ∧
  (x.op = 9 → constF (x.args.getD 1 (mkOp 0 [])) = false ∧ (x.args.headD (mkOp 0 [])).op ≠ 2) ∧
  (x.op = 10 → constF (x.args.getD 1 (mkOp 0 [])) = false ∧ (x.args.headD (mkOp 0 [])).op ≠ 1) ∧
  (x.op = 4 → (arg0F x).op = 3)
/-- every node is canonical -/
inductive Can : Fm → Prop where
  | mk {f : Fm} (h : canP f) (ha : ∀ g ∈ f.args, Can g) : Can f
theorem Can.self {f : Fm} (h : Can f) : canP f := by cases h; assumption
theorem Can.arg {f g : Fm} (h : Can f) (hg : g ∈ f.args) : Can g := by cases h with | mk _ ha => exact ha g hg
theorem can_const {f : Fm} (h : constF f = true) (ha : f.args = []) : Can f := by
  have h' : f.op = 1 ∨ f.op = 2 := by unfold constF at h; simpa using h
  refine .mk ⟨fun e => ?_, fun e => ?_, fun e => ?_, fun e => ?_, fun e => ?_⟩ (by rw [ha]; intro g hg; cases hg)
  · unfold gath at e; omega
  all_goals omega
theorem can_unit {o : Int} (h : gath o) : Can (unitF o) := can_const (unit_op h).2.2 (by rcases h with rfl | rfl <;> rfl)
theorem can_null {o : Int} (h : gath o) : Can (nullF o) := can_const (null_op h).2.2 (by rcases h with rfl | rfl <;> rfl)
/-- what canonical formulas give to a list -/
theorem flat1_can {o : Int} (ho : gath o) {x : Fm} (h : Can x) : ∀ y ∈ flat1 o x, Can y ∧ y.op ≠ o := by
  intro y hy
  by_cases e : x.op = o
  · rw [flat1_is e] at hy
    have h2 := (h.self.1 (by rw [e]; exact ho)).2.1.2.1 y hy
    rw [e] at h2
    exact ⟨h.arg hy, h2⟩
  · rw [flat1_not e] at hy
    obtain rfl : y = x := by simpa using hy
    exact ⟨h, e⟩
theorem flatF_can {o : Int} (ho : gath o) {l : List Fm} (h : ∀ x ∈ l, Can x) : ∀ y ∈ flatF o l, Can y ∧ y.op ≠ o := by
  induction l with
  | nil => intro y hy; simp [flatF] at hy
  | cons x l ih =>
    intro y hy
    rw [flatF_cons, List.mem_append] at hy
    rcases hy with hy | hy
    · exact flat1_can ho (h x (by simp)) y hy
    · exact ih (fun z hz => h z (by simp [hz])) y hy
theorem lits_can {o : Int} (ho : gath o) {s : List Fm} (h : ∀ x ∈ s, Can x) : lits (unitF o) s := by
  intro x hx h4 e
  have h1 := (h x hx).self.2.2.2.2 h4
  rw [e] at h1
  rcases ho with rfl | rfl <;> revert h1 <;> decide
/-- a normal form is canonical -/
theorem can_norm {o : Int} (ho : gath o) {s : List Fm} (h : ∀ x ∈ s, Can x ∧ x.op ≠ o) : Can (normF o s) := by
  unfold normF
  by_cases hb : badL s (nullF o)
  · rw [settle_bad hb]; exact can_null ho
  · have h1 := settled_settle (fun x hx => (h x hx).2) hb
    have h2 : ∀ x ∈ settleF s (unitF o) (nullF o), Can x := fun x hx => (h x ((mem_settle_good hb).1 hx).1).1
    generalize settleF s (unitF o) (nullF o) = r at h1 h2
    match r, h1, h2 with
    | [], _, _ => exact can_unit ho
    | [x], _, h2 => exact h2 x (by simp)
    | x :: y :: r, h1, h2 =>
      refine .mk ⟨fun _ => ⟨rfl, h1, by show 2 ≤ (x :: y :: r).length; simp⟩, fun e => ?_, fun e => ?_, fun e => ?_, fun e => ?_⟩ h2
      all_goals exfalso; have e' : o = _ := e; unfold gath at ho; omega
/-- a list's normal form, put into another list, gives what the list gives -/
theorem norm_norm {o : Int} (ho : gath o) {s t : List Fm} (hs : ∀ x ∈ s, Can x ∧ x.op ≠ o) (ht : ∀ x ∈ t, Can x) : normF o (flat1 o (normF o s) ++ t) = normF o (s ++ t) := by
  have hun := unit_op ho
  have hnu := null_op ho
  by_cases hb : badL s (nullF o)
  · have e1 : normF o s = nullF o := by unfold normF; rw [settle_bad hb]; rfl
    have b1 : badL (flat1 o (normF o s) ++ t) (nullF o) := by
      rw [e1, flat1_not hnu.1]
      exact ⟨nullF o, by simp, .inl rfl⟩
    have b2 : badL (s ++ t) (nullF o) := badL_mono (fun x hx => List.mem_append_left _ hx) hb
    show nodeOf o _ = nodeOf o _
    rw [settle_bad b1, settle_bad b2]
  · have hm : ∀ x, x ≠ unitF o → (x ∈ flat1 o (normF o s) ↔ x ∈ s) := by
      intro x hx
      have h1 : ∀ x, x ∈ settleF s (unitF o) (nullF o) ↔ x ∈ s ∧ x ≠ unitF o := fun _ => mem_settle_good hb
      have h2 : x ∈ s ↔ x ∈ settleF s (unitF o) (nullF o) := by rw [h1]; exact ⟨fun h => ⟨h, hx⟩, fun h => h.1⟩
      rw [h2]
      have h3 : ∀ y ∈ settleF s (unitF o) (nullF o), y.op ≠ o := fun y hy => (hs y ((h1 y).1 hy).1).2
      unfold normF
      generalize settleF s (unitF o) (nullF o) = r at h3
      match r, h3 with
      | [], _ =>
        show x ∈ flat1 o (unitF o) ↔ _
        rw [flat1_not hun.1]
        simp [hx]
      | [y], h3 =>
        show x ∈ flat1 o y ↔ _
        rw [flat1_not (h3 y (by simp))]
      | y :: z :: r, _ =>
        show x ∈ flat1 o (mkOp o (y :: z :: r)) ↔ _
        rw [flat1_is (show (mkOp o (y :: z :: r)).op = o from rfl)]
        exact Iff.rfl
    show nodeOf o _ = nodeOf o _
    refine congrArg _ (settle_congr hun.2.1 (unit_null ho) ?_ ?_ fun x hx => ?_)
    · refine lits_can ho fun x hx => ?_
      rcases List.mem_append.1 hx with hx | hx
      · exact (flat1_can ho (can_norm ho hs) x hx).1
      · exact ht x hx
    · refine lits_can ho fun x hx => ?_
      rcases List.mem_append.1 hx with hx | hx
      · exact (hs x hx).1
      · exact ht x hx
    · rw [List.mem_append, List.mem_append, hm x hx]
/-- a canonical formula, alone, is its own normal form -/
theorem norm_one {o : Int} (ho : gath o) {x : Fm} (h : Can x) : normF o (flat1 o x) = x := by
  by_cases e : x.op = o
  · obtain ⟨h1, h2, h3⟩ := h.self.1 (by rw [e]; exact ho)
    rw [e] at h1 h2
    rw [flat1_is e]
    unfold normF
    rw [settle_settled h2]
    generalize x.args = l at h1 h3
    match l, h3 with
    | y :: z :: r, _ => exact h1.symm
  · rw [flat1_not e]
    by_cases hb : badL [x] (nullF o)
    · obtain ⟨y, hy, h1⟩ := hb
      obtain rfl : y = x := by simpa using hy
      rcases h1 with h1 | ⟨h4, h1⟩
      · unfold normF
        rw [settle_bad ⟨y, hy, .inl h1⟩, h1]; rfl
      · have h5 : arg0F y = y := by simpa using h1
        have h6 := h.self.2.2.2.2 h4
        rw [h5, h4] at h6
        exact absurd h6 (by decide)
    · have h1 : setF [x] = [x] := setF_asc (List.pairwise_singleton _ _)
      unfold normF
      rw [settle_good hb, h1]
      by_cases hx : x = unitF o
      · rw [List.filter_cons_of_neg (by simp [hx, cmpF_self])]
        rw [hx]; rfl
      · rw [List.filter_cons_of_pos (by simp [cmpF_eq0, hx])]; rfl
theorem norm_units {o : Int} (ho : gath o) {s t : List Fm} (hs : ∀ x ∈ s, Can x) (ht : ∀ x ∈ t, Can x) (h : ∀ x, x ≠ unitF o → (x ∈ s ↔ x ∈ t)) : normF o s = normF o t :=
  congrArg (nodeOf o) (settle_congr (unit_op ho).2.1 (unit_null ho) (lits_can ho hs) (lits_can ho ht) h)
theorem norm_bad {o : Int} {s : List Fm} (h : nullF o ∈ s) : normF o s = nullF o := by
  unfold normF
  rw [settle_bad ⟨_, h, .inl rfl⟩]; rfl

/-- canonical forms are canonical -/
theorem can_canonN {o : Int} {n : ByteArray} {v b : Int} {a : List Fm} (ha : ∀ x ∈ a, Can x) (h8 : o = 8 → a ≠ []) (h9 : o = 9 ∨ o = 10 → 2 ≤ a.length) (h4 : o = 4 → (a.headD (mkOp 0 [])).op = 3) : Can (canonN o n v b a) := by
  have hd : a ≠ [] → Can (a.headD (mkOp 0 [])) := by
    intro h
    cases a with
    | nil => exact absurd rfl h
    | cons x r => exact ha x (by simp)
  have hd1 : 2 ≤ a.length → Can (a.getD 1 (mkOp 0 [])) := by
    intro h
    match a, h, ha with
    | x :: y :: r, _, ha => exact ha y (by simp)
  unfold canonN
  split
  · next h => rw [joinF_norm]; exact can_norm h (flatF_can h ha)
  · next h5 =>
    have hg : ¬ gath (Fm.mk o n v b a).op := h5
    have other : ∀ (c8 : o = 8 → constF (a.headD (mkOp 0 [])) = false) (c9 : o = 9 → constF (a.getD 1 (mkOp 0 [])) = false ∧ (a.headD (mkOp 0 [])).op ≠ 2) (c10 : o = 10 → constF (a.getD 1 (mkOp 0 [])) = false ∧ (a.headD (mkOp 0 [])).op ≠ 1), Can (.mk o n v b a) :=
      fun c8 c9 c10 => .mk ⟨fun h => absurd h hg, c8, c9, c10, h4⟩ ha
    split
    · next h =>
      split
      · exact hd (h8 h)
      · next hc => exact other (fun _ => by simpa using hc) (by omega) (by omega)
    · next h8' =>
      split
      · next h =>
        split
        · exact hd1 (h9 (.inl h))
        · next hc =>
          rw [not_or] at hc
          exact other (by omega) (fun _ => ⟨by simpa using hc.1, hc.2⟩) (by omega)
      · next h9' =>
        split
        · next h =>
          split
          · exact hd1 (h9 (.inr h))
          · next hc =>
            rw [not_or] at hc
            exact other (by omega) (by omega) (fun _ => ⟨by simpa using hc.1, hc.2⟩)
        · exact other (fun h => absurd h h8') (fun h => absurd h h9') (by omega)
theorem core_not {f : Fm} (hn : nodeB f = true) (hc : coreNodeB f = true) (h : f.op = 4) : ∃ x, f.args = [x] ∧ x.op = 3 := by
  obtain ⟨x, hx⟩ := args_one_of hn (by rw [h]; rfl) (by rw [h]; rfl)
  refine ⟨x, hx, ?_⟩
  unfold coreNodeB at hc
  simp only [h, beq_self_eq_true, Bool.not_true, Bool.false_or, Bool.and_eq_true, beq_iff_eq] at hc
  have := hc.2
  rw [arg0_eq (by rw [hx]; simp)] at this
  simpa [hx] using this
theorem canon_is {f : Fm} (h : f.op = 3) : canonF f = .mk f.op f.name f.val f.bound (f.args.map canonF) := by
  rw [canonF_eq]
  unfold canonN
  rw [if_neg (by omega), if_neg (by omega), if_neg (by omega), if_neg (by omega)]
theorem can_canonF (f : Fm) : nodesB f = true → coreB f = true → Can (canonF f) := by
  induction f using Fm.ind with
  | h f ih =>
    intro h hc
    have hn := nodesB_self h
    rw [canonF_eq]
    refine can_canonN (fun x hx => ?_) (fun h8 h0 => (nodeB_arity hn).1 h8 (by simpa using h0)) (fun h9 => by rw [List.length_map]; exact (nodeB_arity hn).2 h9) fun h4 => ?_
    · obtain ⟨y, hy, rfl⟩ := List.mem_map.1 hx
      exact ih y hy (nodesB_arg h hy) (Fm.all_arg hc hy)
    · obtain ⟨x, hx, h3⟩ := core_not hn (Fm.all_self hc) h4
      rw [hx]
      show (canonF x).op = 3
      rw [canon_is h3]; exact h3
/-- a canonical formula is its own canonical form -/
theorem canon_can (f : Fm) : Can f → canonF f = f := by
  induction f using Fm.ind with
  | h f ih =>
    intro h
    have e : f.args.map canonF = f.args := by
      have : ∀ l : List Fm, (∀ g ∈ l, canonF g = g) → l.map canonF = l := by
        intro l
        induction l with
        | nil => intro _; rfl
        | cons x l ihl => intro hl; rw [List.map_cons, hl x (by simp), ihl fun g hg => hl g (by simp [hg])]
      exact this _ fun g hg => ih g hg (h.arg hg)
    rw [canonF_eq, e]
    obtain ⟨c1, c8, c9, c10, -⟩ := h.self
    unfold canonN
    split
    · next ho =>
      obtain ⟨q1, q2, q3⟩ := c1 ho
      have hfl : flatF f.op f.args = f.args := by
        have : ∀ l : List Fm, (∀ g ∈ l, g.op ≠ f.op) → flatF f.op l = l := by
          intro l
          induction l with
          | nil => intro _; rfl
          | cons x l ihl => intro hl; rw [flatF_cons, flat1_not (hl x (by simp)), ihl fun g hg => hl g (by simp [hg])]; rfl
        exact this _ q2.2.1
      rw [joinF_norm, hfl]
      unfold normF
      rw [settle_settled q2]
      conv => rhs; rw [q1]
      generalize f.args = l at q3
      match l, q3 with
      | y :: z :: r, _ => rfl
    · split
      · next h8 => rw [if_neg (by rw [c8 h8]; simp)]; exact (Fm.eta f).symm
      · split
        · next h9 => rw [if_neg (by rw [(c9 h9).1]; simpa using (c9 h9).2)]; exact (Fm.eta f).symm
        · split
          · next h10 => rw [if_neg (by rw [(c10 h10).1]; simpa using (c10 h10).2)]; exact (Fm.eta f).symm
          · exact (Fm.eta f).symm

end Go.Proofs.YtlkoacopknolnaaGreatDoor
