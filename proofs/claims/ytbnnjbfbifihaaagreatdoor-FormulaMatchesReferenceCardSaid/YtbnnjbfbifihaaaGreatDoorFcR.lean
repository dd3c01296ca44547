/-
  Canonical forms as plain functions: they are no longer, and a negation in them has an argument.
-/
import Derived.Test.YtbnnjbfbifihaaaGreatDoorFcQ
namespace Go.Proofs.YtbnnjbfbifihaaaGreatDoor

/-- a negation has an argument -/
def safeB (f : Fm) : Bool := !(f.op == 4) || decide (f.args.length ≠ 0)
theorem safeB_iff {f : Fm} : safeB f = true ↔ (f.op = 4 → f.args ≠ []) := by
  unfold safeB
  by_cases h : f.op = 4
  · simp [h]
  · simp [h]
theorem nodesB_safe {f : Fm} (h : nodesB f = true) : f.all safeB = true := by
  refine Fm.all_mono (fun g hg => safeB_iff.2 fun h4 h0 => ?_) f h
  have := (nodeB_len hg).1
  rw [h4, h0] at this
  have h1 : fLeast (4 : Int).toNat = 1 := rfl
  rw [h1] at this
  simp at this
theorem all_args {p : Fm → Bool} {f g : Fm} (h : f.all p = true) (hg : g ∈ f.args) : g.all p = true := Fm.all_arg h hg
theorem mem_flatF {op : Int} {l : List Fm} {x : Fm} : x ∈ flatF op l ↔ ∃ f ∈ l, (f.op = op ∧ x ∈ f.args) ∨ (f.op ≠ op ∧ x = f) := by
  unfold flatF
  rw [List.mem_flatMap]
  constructor
  · rintro ⟨f, hf, hx⟩
    refine ⟨f, hf, ?_⟩
    split at hx
    · next h => exact .inl ⟨h, hx⟩
    · next h => exact .inr ⟨h, by simpa using hx⟩
  · rintro ⟨f, hf, ⟨h, hx⟩ | ⟨h, rfl⟩⟩
    · exact ⟨f, hf, by rw [if_pos h]; exact hx⟩
    · exact ⟨x, hf, by rw [if_neg h]; simp⟩
theorem all_flatF {p : Fm → Bool} {op : Int} {l : List Fm} (h : ∀ f ∈ l, f.all p = true) : ∀ x ∈ flatF op l, x.all p = true := by
  intro x hx
  obtain ⟨f, hf, ⟨-, hx⟩ | ⟨-, rfl⟩⟩ := mem_flatF.1 hx
  · exact all_args (h f hf) hx
  · exact h x hf
theorem mem_settleF {l : List Fm} {unit zero x : Fm} (h : x ∈ settleF l unit zero) : x = zero ∨ x ∈ l := by
  unfold settleF at h
  split at h
  · exact .inl (by simpa using h)
  · exact .inr (mem_setF.1 ((List.mem_filter.1 h).1))
theorem all_mkOp {p : Fm → Bool} {op : Int} {l : List Fm} (h : p (mkOp op l) = true) (hl : ∀ x ∈ l, x.all p = true) : (mkOp op l).all p = true := Fm.all_mk h hl
theorem all_joinF {p : Fm → Bool} {op : Int} {l : List Fm} (_ : op = 5 ∨ op = 6) (h : ∀ f ∈ l, f.all p = true) (h1 : p (mkOp 1 []) = true) (h2 : p (mkOp 2 []) = true) (hn : ∀ l : List Fm, 2 ≤ l.length → p (mkOp op l) = true) : (joinF op l).all p = true := by
  have hu : (unitF op).all p = true := by unfold unitF; split <;> exact all_mkOp (by assumption) (fun x h => by cases h)
  have hz : (nullF op).all p = true := by unfold nullF; split <;> exact all_mkOp (by assumption) (fun x h => by cases h)
  have hs : ∀ x ∈ settleF (flatF op l) (unitF op) (nullF op), x.all p = true := fun x hx => by
    rcases mem_settleF hx with rfl | hx
    · exact hz
    · exact all_flatF h x hx
  unfold joinF
  generalize settleF (flatF op l) (unitF op) (nullF op) = s at hs
  match s, hs with
  | [], _ => exact hu
  | [x], hs => exact hs x (by simp)
  | x :: y :: r, hs => exact all_mkOp (hn _ (by simp)) hs
theorem canonN_all {p : Fm → Bool} {o : Int} {n : ByteArray} {v b : Int} {a : List Fm} (ha : ∀ x ∈ a, x.all p = true) (h8 : o = 8 → a ≠ []) (h9 : o = 9 ∨ o = 10 → 2 ≤ a.length) (hk : p (.mk o n v b a) = true) (h1 : p (mkOp 1 []) = true) (h2 : p (mkOp 2 []) = true) (hn : ∀ l : List Fm, 2 ≤ l.length → (o = 5 ∨ o = 6) → p (mkOp o l) = true) : (canonN o n v b a).all p = true := by
  have hself : (Fm.mk o n v b a).all p = true := Fm.all_mk hk ha
  have hd : a ≠ [] → (a.headD (mkOp 0 [])).all p = true := by
    intro h
    cases a with
    | nil => exact absurd rfl h
    | cons x r => exact ha x (by simp)
  have hd1 : 2 ≤ a.length → (a.getD 1 (mkOp 0 [])).all p = true := by
    intro h
    match a, h, ha with
    | x :: y :: r, _, ha => exact ha y (by simp)
  unfold canonN
  split
  · next h => exact all_joinF h ha h1 h2 (fun l hl => hn l hl h)
  · split
    · next h => split <;> first | exact hd (h8 h) | exact hself
    · split
      · next h => split <;> first | exact hd1 (h9 (.inl h)) | exact hself
      · split
        · next h => split <;> first | exact hd1 (h9 (.inr h)) | exact hself
        · exact hself
theorem nodeB_arity {f : Fm} (h : nodeB f = true) : (f.op = 8 → f.args ≠ []) ∧ (f.op = 9 ∨ f.op = 10 → 2 ≤ f.args.length) := by
  have hl := (nodeB_len h).1
  constructor
  · intro h8 h0
    rw [h8, h0] at hl
    have h1 : fLeast (8 : Int).toNat = 1 := rfl
    rw [h1] at hl
    simp at hl
  · intro h9
    rcases h9 with h9 | h9 <;> rw [h9] at hl
    · have h1 : fLeast (9 : Int).toNat = 2 := rfl
      rw [h1] at hl
      omega
    · have h1 : fLeast (10 : Int).toNat = 2 := rfl
      rw [h1] at hl
      omega
/-- a negation in the canonical form has an argument -/
theorem canonF_safe (f : Fm) : nodesB f = true → (canonF f).all safeB = true := by
  induction f using Fm.ind with
  | h f ih =>
    intro h
    have hn := nodesB_self h
    rw [canonF_eq]
    refine canonN_all (fun x hx => ?_) (fun h8 h0 => (nodeB_arity hn).1 h8 (by simpa using h0)) (fun h9 => by rw [List.length_map]; exact (nodeB_arity hn).2 h9) ?_ rfl rfl (fun l _ ho => ?_)
    · obtain ⟨y, hy, rfl⟩ := List.mem_map.1 hx
      exact ih y hy (nodesB_arg h hy)
    · have := Fm.all_self (nodesB_safe h)
      unfold safeB at this ⊢
      simp only [Fm.op, Fm.args, List.length_map] at this ⊢
      cases f
      exact this
    · rcases ho with ho | ho <;> rw [ho] <;> rfl

theorem nodesL_ins (x : Fm) (l : List Fm) : Fm.nodesL (insF x l) ≤ x.nodes + Fm.nodesL l := by
  induction l with
  | nil => unfold insF; rw [Fm.nodesL_cons]; omega
  | cons y l ih =>
    unfold insF
    split
    · rw [Fm.nodesL_cons, Fm.nodesL_cons]; omega
    · split
      · rw [Fm.nodesL_cons]; omega
      · rw [Fm.nodesL_cons]; omega
theorem nodesL_fold (l : List Fm) : ∀ a, Fm.nodesL (l.foldl (fun a x => insF x a) a) ≤ Fm.nodesL a + Fm.nodesL l := by
  induction l with
  | nil => intro a; simp
  | cons x l ih =>
    intro a
    have h1 := ih (insF x a)
    have h2 := nodesL_ins x a
    rw [List.foldl_cons, Fm.nodesL_cons]
    omega
theorem nodesL_setF (l : List Fm) : Fm.nodesL (setF l) ≤ Fm.nodesL l := by
  have := nodesL_fold l []
  rw [Fm.nodesL_nil, Nat.zero_add] at this
  exact this
theorem nodesL_filter (p : Fm → Bool) (l : List Fm) : Fm.nodesL (l.filter p) ≤ Fm.nodesL l := by
  induction l with
  | nil => simp
  | cons x l ih =>
    rw [List.filter_cons]
    split
    · rw [Fm.nodesL_cons, Fm.nodesL_cons]; omega
    · rw [Fm.nodesL_cons]; omega
theorem nodesL_flatF (op : Int) (l : List Fm) : Fm.nodesL (flatF op l) ≤ Fm.nodesL l := by
  induction l with
  | nil => simp [flatF]
  | cons x l ih =>
    have e : flatF op (x :: l) = (if x.op = op then x.args else [x]) ++ flatF op l := by simp [flatF]
    rw [e, Fm.nodesL_append, Fm.nodesL_cons]
    split
    · rw [Fm.nodes_eq x]; omega
    · rw [Fm.nodesL_cons, Fm.nodesL_nil]; omega
theorem len_nodesL (l : List Fm) : l.length ≤ Fm.nodesL l := by
  induction l with
  | nil => simp
  | cons x l ih => rw [Fm.nodesL_cons, List.length_cons]; have := x.nodes_pos; omega
theorem nodesL_settle (l : List Fm) (unit zero : Fm) (hz : zero.nodes = 1) : Fm.nodesL (settleF l unit zero) ≤ Fm.nodesL l := by
  unfold settleF
  split
  · next h =>
    rw [List.any_eq_true] at h
    obtain ⟨x, hx, -⟩ := h
    have h1 : 0 < (setF l).length := List.length_pos_of_mem hx
    have h2 := len_nodesL (setF l)
    have h3 := nodesL_setF l
    rw [Fm.nodesL_cons, Fm.nodesL_nil, hz]
    omega
  · exact Nat.le_trans (nodesL_filter _ _) (nodesL_setF l)
theorem nodes_mkOp (op : Int) (l : List Fm) : (mkOp op l).nodes = 1 + Fm.nodesL l := Fm.nodes_eq _
theorem nodes_joinF (op : Int) (l : List Fm) : (joinF op l).nodes ≤ 1 + Fm.nodesL l := by
  have hz : (nullF op).nodes = 1 := by unfold nullF; split <;> rw [nodes_mkOp, Fm.nodesL_nil]
  have h1 := nodesL_settle (flatF op l) (unitF op) (nullF op) hz
  have h2 := nodesL_flatF op l
  unfold joinF
  generalize settleF (flatF op l) (unitF op) (nullF op) = s at h1
  match s, h1 with
  | [], _ =>
    show (unitF op).nodes ≤ _
    unfold unitF
    split <;> rw [nodes_mkOp, Fm.nodesL_nil] <;> omega
  | [x], h1 =>
    rw [Fm.nodesL_cons, Fm.nodesL_nil] at h1
    show x.nodes ≤ _
    omega
  | x :: y :: r, h1 =>
    show (mkOp op (x :: y :: r)).nodes ≤ _
    rw [nodes_mkOp]
    omega
theorem nodes_canonN (o : Int) (n : ByteArray) (v b : Int) (a : List Fm) (h8 : o = 8 → a ≠ []) (h9 : o = 9 ∨ o = 10 → 2 ≤ a.length) : (canonN o n v b a).nodes ≤ 1 + Fm.nodesL a := by
  have hself : (Fm.mk o n v b a).nodes ≤ 1 + Fm.nodesL a := Nat.le_of_eq (Fm.nodes_eq _)
  have hd : a ≠ [] → (a.headD (mkOp 0 [])).nodes ≤ 1 + Fm.nodesL a := by
    intro h
    cases a with
    | nil => exact absurd rfl h
    | cons x r => rw [Fm.nodesL_cons]; show x.nodes ≤ _; omega
  have hd1 : 2 ≤ a.length → (a.getD 1 (mkOp 0 [])).nodes ≤ 1 + Fm.nodesL a := by
    intro h
    match a, h with
    | x :: y :: r, _ => rw [Fm.nodesL_cons, Fm.nodesL_cons]; show y.nodes ≤ _; omega
  unfold canonN
  split
  · exact nodes_joinF o a
  · split
    · next h => split <;> first | exact hd (h8 h) | exact hself
    · split
      · next h => split <;> first | exact hd1 (h9 (.inl h)) | exact hself
      · split
        · next h => split <;> first | exact hd1 (h9 (.inr h)) | exact hself
        · exact hself
/-- the canonical form is no longer -/
theorem nodes_canonF (f : Fm) : nodesB f = true → (canonF f).nodes ≤ f.nodes := by
  induction f using Fm.ind with
  | h f ih =>
    intro h
    have hn := nodesB_self h
    rw [canonF_eq, Fm.nodes_eq f]
    have hm : ∀ l : List Fm, (∀ x ∈ l, (canonF x).nodes ≤ x.nodes) → Fm.nodesL (l.map canonF) ≤ Fm.nodesL l := by
      intro l
      induction l with
      | nil => intro _; simp
      | cons x l ihl =>
        intro hx
        have h1 := hx x (by simp)
        have h2 := ihl fun y hy => hx y (by simp [hy])
        rw [List.map_cons, Fm.nodesL_cons, Fm.nodesL_cons]
        omega
    have h1 := hm f.args fun x hx => ih x hx (nodesB_arg h hx)
    have h2 := nodes_canonN f.op f.name f.val f.bound (f.args.map canonF) (fun h8 h0 => (nodeB_arity hn).1 h8 (by simpa using h0)) (fun h9 => by rw [List.length_map]; exact (nodeB_arity hn).2 h9)
    omega
theorem nodesL_canonF {l : List Fm} (h : ∀ x ∈ l, nodesB x = true) : Fm.nodesL (l.map canonF) ≤ Fm.nodesL l := by
  induction l with
  | nil => simp
  | cons x l ih =>
    have h1 := nodes_canonF x (h x (by simp))
    have h2 := ih fun y hy => h y (by simp [hy])
    rw [List.map_cons, Fm.nodesL_cons, Fm.nodesL_cons]
    omega
/-- what join asks of canonical forms -/
theorem join_asks {op : Int} {l : List Fm} (h : ∀ x ∈ l, nodesB x = true) (hn : Fm.nodesL l ≤ 1000000) : (flatF op (l.map canonF)).length ≤ 1000000 ∧ ∀ x ∈ flatF op (l.map canonF), x.op = 4 → x.args ≠ [] := by
  constructor
  · have h1 := len_nodesL (flatF op (l.map canonF))
    have h2 := nodesL_flatF op (l.map canonF)
    have h3 := nodesL_canonF h
    omega
  · intro x hx
    have := all_flatF (p := safeB) (op := op) (l := l.map canonF) (fun f hf => by
      obtain ⟨y, hy, rfl⟩ := List.mem_map.1 hf
      exact canonF_safe y (h y hy)) x hx
    exact safeB_iff.1 (Fm.all_self this)

end Go.Proofs.YtbnnjbfbifihaaaGreatDoor
