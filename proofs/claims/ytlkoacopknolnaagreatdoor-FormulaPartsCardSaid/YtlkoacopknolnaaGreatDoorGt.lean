/-
  Contracts that the formula laws stand on, part Gt.
-/
import Derived.Test.YtlkoacopknolnaaGreatDoorFiA
import Derived.Test.YtlkoacopknolnaaGreatDoorGg
import Derived.Test.YtlkoacopknolnaaGreatDoorGi
import Derived.Test.YtlkoacopknolnaaGreatDoorGj
import Derived.Test.YtlkoacopknolnaaGreatDoorGp

/-
  The names of a form; a kernel is its own kernel.
-/
namespace Go.Proofs.YtlkoacopknolnaaGreatDoor

/-- no node has the name -/
def noB (x : ByteArray) (f : Fm) : Bool := !(f.op == 3 && f.name.toList == x.toList)

theorem all_nodesP (q : Fm → Bool) (f : Fm) : ∀ d p, (∀ y ∈ nodesP f d p, q y.1 = true) ↔ f.all q = true := by
  induction f using Fm.ind with
  | h f ih =>
    intro d p
    have hl : ∀ (l : List Fm), (∀ g ∈ l, ∀ d p, (∀ y ∈ nodesP g d p, q y.1 = true) ↔ g.all q = true) → ∀ d p, (∀ y ∈ nodesPL l d p, q y.1 = true) ↔ ∀ g ∈ l, g.all q = true := by
      intro l
      induction l with
      | nil => intro _ d p; rw [nodesPL_nil]; simp
      | cons g l ih2 =>
        intro h d p
        rw [nodesPL_cons]
        have h1 := h g (List.mem_cons_self ..) d p
        have h2 := ih2 (fun z hz => h z (List.mem_cons_of_mem _ hz)) d p
        simp only [List.mem_append, List.mem_cons, forall_eq_or_imp]
        rw [← h1, ← h2]
        exact ⟨fun h => ⟨fun y hy => h y (.inl hy), fun y hy => h y (.inr hy)⟩, fun h y hy => hy.elim (h.1 y) (h.2 y)⟩
    rw [nodesP_eq, Fm.all_eq, Bool.and_eq_true, List.all_eq_true, ← hl f.args ih (d + 1) (p || lateB f.op)]
    simp

theorem mem_names_all {f : Fm} {x : ByteArray} : x ∈ namesF f ↔ f.all (noB x) = false := by
  rw [mem_namesF]
  have h := all_nodesP (noB x) f 1 false
  constructor
  · rintro ⟨y, hy, h1, h2⟩
    cases e : f.all (noB x)
    · rfl
    · have := h.2 e y hy
      simp [noB, h1, h2] at this
  · intro e
    refine Classical.byContradiction fun hne => ?_
    have : f.all (noB x) = true := h.1 fun y hy => by
      cases e2 : noB x y.1
      · refine (hne ⟨y, hy, ?_⟩).elim
        simp only [noB, Bool.not_eq_false', Bool.and_eq_true] at e2
        exact ⟨by simpa using e2.1, beq_toList.1 e2.2⟩
      · rfl
    rw [e] at this; cases this

theorem named_arg {x : ByteArray} {f g : Fm} (h : f.all (noB x) = true) (hg : g ∈ f.args) : g.all (noB x) = true := Fm.all_arg h hg
theorem no_mk {x : ByteArray} {o : Int} {n : ByteArray} {v b : Int} {l : List Fm} (h3 : o ≠ 3) : (Fm.mk o n v b l).all (noB x) = true ↔ ∀ g ∈ l, g.all (noB x) = true := by
  rw [Fm.all_eq, Bool.and_eq_true, List.all_eq_true]
  have : noB x (Fm.mk o n v b l) = true := by
    have : (o == 3) = false := beq_eq_false_iff_ne.2 h3
    show (!((o == 3) && _)) = true
    rw [this]; rfl
  exact ⟨fun h => h.2, fun h => ⟨this, h⟩⟩
theorem no_rep {x : ByteArray} {o : Int} (ho : o = 5 ∨ o = 6) (f : Fm) : ∀ n : Nat, (repF o n f).all (noB x) = true ↔ f.all (noB x) = true
  | 0 => Iff.rfl
  | n + 1 => by
    have ih := no_rep (x := x) ho f n
    rw [repF, mkOp, no_mk (by omega)]
    simp only [List.mem_cons, List.not_mem_nil, or_false, forall_eq_or_imp, forall_eq]
    rw [mkOp, no_mk (by omega)]
    simp [ih]

/-- a form has the names of the formula -/
theorem no_form (x : ByteArray) (f : Fm) : nodesB f = true → ∀ n, (formP f n).all (noB x) = true ↔ f.all (noB x) = true := by
  induction f using Fm.ind with
  | h f ih =>
    intro hf n
    have hn := nodesB_self hf
    have harg : ∀ y ∈ f.args, ∀ n, (formP y n).all (noB x) = true ↔ y.all (noB x) = true := fun y hy => ih y hy (nodesB_arg hf hy)
    have hc : ∀ o n b v, o ≠ (3 : Int) → ((Fm.mk o n b v []).all (noB x) = true) := fun o n b v ho => (no_mk ho).2 (by intro g hg; cases hg)
    rcases op_parts (nodeB_known hn) with hp | h4 | hs
    · by_cases h3 : f.op = 3
      · obtain ⟨e1, e2⟩ := form_is h3
        cases n
        · rw [e2]
        · rw [e1, mkOp, no_mk (by omega)]; simp
      · obtain ⟨g1, g2, -⟩ := plain_facts hp h3
        rw [form_plain hn hp h3 n, no_mk (by split <;> assumption)]
        obtain ⟨o, nm, v, b, a⟩ := f
        rw [no_mk (show o ≠ 3 from h3)]
        simp only [Fm.args] at harg ⊢
        exact ⟨fun h y hy => (harg y hy n).1 (h _ (List.mem_map.2 ⟨y, hy, rfl⟩)), fun h Y hY => by obtain ⟨y, hy, rfl⟩ := List.mem_map.1 hY; exact (harg y hy n).2 (h y hy)⟩
    · obtain ⟨y, hy⟩ := args_one_of hn (by rw [h4]; rfl) (by rw [h4]; rfl)
      rw [form_not h4 hy, harg y (by rw [hy]; simp)]
      obtain ⟨o, nm, v, b, a⟩ := f
      simp only [Fm.op, Fm.args] at h4 hy
      subst h4 hy
      rw [no_mk (by omega)]; simp
    · obtain ⟨o, nm, v, b, a⟩ := f
      simp only [Fm.op, Fm.args] at hs harg
      rcases hs with rfl | rfl | rfl | rfl | rfl | rfl | rfl
      · obtain ⟨y, z, rfl⟩ := args_two_of hn (by rfl) (by rfl)
        have hy := harg y (by simp)
        have hz := harg z (by simp)
        cases n <;> simp [mkOp, formP, formPL, formN, no_mk, hy, hz]
      · obtain ⟨y, rfl⟩ := said_one hn (by simp [Fm.op])
        have hy := harg y (by simp)
        cases n <;> simp [mkOp, formP, formPL, formN, no_mk, hy]
      · obtain ⟨y, rfl⟩ := said_one hn (by simp [Fm.op])
        have hy := harg y (by simp)
        cases n <;> simp [mkOp, formP, formPL, formN, no_mk, hy]
      · obtain ⟨y, rfl⟩ := said_one hn (by simp [Fm.op])
        have hy := harg y (by simp)
        cases n <;> simp [formP, formPL, formN, no_mk, no_rep, hy]
      · obtain ⟨y, rfl⟩ := said_one hn (by simp [Fm.op])
        have hy := harg y (by simp)
        cases n <;> simp [formP, formPL, formN, no_mk, no_rep, hy]
      · obtain ⟨y, rfl⟩ := said_one hn (by simp [Fm.op])
        have hy := harg y (by simp)
        cases n <;> simp [mkOp, mkLate, formP, formPL, formN, no_mk, hy]
      · obtain ⟨y, rfl⟩ := said_one hn (by simp [Fm.op])
        have hy := harg y (by simp)
        cases n <;> simp [mkOp, mkLate, formP, formPL, formN, no_mk, hy]

theorem names_form {f : Fm} (h : nodesB f = true) (n : Bool) : namesF (formP f n) = namesF f := by
  refine ascN_unique (namesF_asc _) (namesF_asc _) fun x => ?_
  rw [mem_names_all, mem_names_all, ← Bool.not_eq_true, ← Bool.not_eq_true, no_form x f h n]

theorem fvalid_parts {f : Fm} : fvalidB f = true ↔ f.nodes ≤ 60 ∧ f.depth ≤ 20 ∧ nodesB f = true := by
  unfold fvalidB; simp [and_assoc]
theorem loose_parts {f : Fm} : looseB f = true ↔ f.nodes ≤ 400 ∧ f.depth ≤ 60 ∧ nodesB f = true ∧ coreB f = true ∧ layB f = true := by
  unfold looseB; simp [and_assoc]

/-- the kernel of a kernel; its names; of a formula that is one -/
theorem kernel_facts {f : Fm} (hv : fvalidB f = true) (hl : layB f = true) :
    ((formP f false).nodes ≤ 60 ∧ (formP f false).depth ≤ 20 → kernelF f = (formP f false, 0) ∧ kernelF (formP f false) = (formP f false, 0) ∧ kernelB (formP f false) = true) ∧
    (¬ ((formP f false).nodes ≤ 60 ∧ (formP f false).depth ≤ 20) → kernelF f = (zeroF, 2) ∧ kernelB f = false) ∧ namesF (formP f false) = namesF f ∧ (kernelB f = true → formP f false = f) := by
  obtain ⟨v1, v2, v3⟩ := fvalid_parts.1 hv
  obtain ⟨c1, c2⟩ := form_core v3 false
  have l1 := form_lay v3 hl false
  have hk : kernelB f = true → formP f false = f := fun h => by
    unfold kernelB at h
    rw [Bool.and_eq_true, loose_parts] at h
    exact form_self f v3 h.1.2.2.2.1
  refine ⟨fun h => ?_, fun h => ?_, names_form v3 false, hk⟩
  · have w1 : fvalidB (formP f false) = true := fvalid_parts.2 ⟨h.1, h.2, c1⟩
    have e : formP (formP f false) false = formP f false := form_form f v3 false false
    refine ⟨?_, ?_, ?_⟩
    · unfold kernelF; rw [if_pos ⟨hv, hl⟩, if_pos h]
    · unfold kernelF; rw [if_pos ⟨w1, l1⟩, e, if_pos h]
    · unfold kernelB
      rw [w1, loose_parts.2 ⟨by omega, by omega, c1, c2, l1⟩]; rfl
  · refine ⟨?_, ?_⟩
    · unfold kernelF; rw [if_pos ⟨hv, hl⟩, if_neg h]
    · rw [← Bool.not_eq_true]
      intro hk'
      rw [hk hk'] at h
      exact h ⟨v1, v2⟩

/-- negation: twice; and of a kernel -/
theorem not_not {f : Fm} (hl : looseB f = true) (h : (notF f).op ≠ 0) : notF (notF f) = f := by
  obtain ⟨a1, a2, a3, a4, a5⟩ := loose_parts.1 hl
  unfold notF at h
  split at h
  · next hc =>
    have e : notF f = formP f true := by unfold notF; rw [if_pos hc]
    obtain ⟨c1, c2⟩ := form_core a3 true
    have e2 : formP (formP f true) true = f := by rw [form_form f a3 true true]; exact form_self f a3 a4
    rw [e]
    unfold notF
    rw [e2, if_pos ⟨loose_parts.2 ⟨hc.2.1, hc.2.2, c1, c2, form_lay a3 a5 true⟩, a1, a2⟩]
  · exact (h rfl).elim

theorem kernel_not {f : Fm} (h1 : (kernelF f).2 = 0) (h2 : (kernelF (mkOp 4 [f])).2 = 0) : (kernelF (mkOp 4 [f])).1 = notF (kernelF f).1 := by
  have k1 : (fvalidB f = true ∧ layB f = true) ∧ (formP f false).nodes ≤ 60 ∧ (formP f false).depth ≤ 20 := by
    unfold kernelF at h1
    split at h1
    · split at h1
      · exact ⟨by assumption, by assumption⟩
      · cases h1
    · cases h1
  have k2 : (fvalidB (mkOp 4 [f]) = true ∧ layB (mkOp 4 [f]) = true) ∧ (formP (mkOp 4 [f]) false).nodes ≤ 60 ∧ (formP (mkOp 4 [f]) false).depth ≤ 20 := by
    unfold kernelF at h2
    split at h2
    · split at h2
      · exact ⟨by assumption, by assumption⟩
      · cases h2
    · cases h2
  have e4 : formP (mkOp 4 [f]) false = formP f true := form_not (f := mkOp 4 [f]) rfl rfl false
  obtain ⟨v1, v2, v3⟩ := fvalid_parts.1 k1.1.1
  obtain ⟨c1, c2⟩ := form_core v3 false
  have e1 : kernelF f = (formP f false, 0) := by unfold kernelF; rw [if_pos k1.1, if_pos k1.2]
  have e2 : kernelF (mkOp 4 [f]) = (formP f true, 0) := by unfold kernelF; rw [if_pos k2.1, if_pos k2.2, e4]
  have e3 : formP (formP f false) true = formP f true := form_form f v3 false true
  rw [e4] at k2
  rw [e1, e2]
  show formP f true = notF (formP f false)
  unfold notF
  rw [e3, if_pos ⟨loose_parts.2 ⟨by omega, by omega, c1, c2, form_lay v3 k1.1.2 false⟩, by omega, by omega⟩]

end Go.Proofs.YtlkoacopknolnaaGreatDoor

/-
  What FormulaParts says, of plain formulas: what is past is layered, what a formula is its arguments are, and its names are theirs.
-/
namespace Go.Proofs.YtlkoacopknolnaaGreatDoor

theorem parts_past_lay (f : Fm) : pastB f = true → layB f = true := by
  induction f using Fm.ind with
  | h f ih =>
    intro h
    rw [layB_eq, List.all_eq_true]
    intro g hg
    have hp : pastB g = true := Fm.all_arg h hg
    rw [ih g hg hp, hp]
    simp
theorem parts_past {f g : Fm} (h : pastB f = true) (hg : g ∈ f.args) : pastB g = true := Fm.all_arg h hg
theorem parts_lay {f g : Fm} (h : layB f = true) (hg : g ∈ f.args) : layB g = true := Fm.all_arg h hg
theorem parts_size {f g : Fm} (hg : g ∈ f.args) : g.nodes ≤ f.nodes ∧ g.depth ≤ f.depth := by
  obtain ⟨k, hk, rfl⟩ := List.mem_iff_getElem.1 hg
  have h1 := Fm.nodes_get hk
  have h2 := Fm.depth_get hk
  rw [Fm.nodes_eq f, Fm.depth_eq f]
  omega
theorem parts_valid {f g : Fm} (h : fvalidB f = true) (hg : g ∈ f.args) : fvalidB g = true := by
  unfold fvalidB at h ⊢
  simp only [Bool.and_eq_true, decide_eq_true_eq] at h ⊢
  obtain ⟨h1, h2⟩ := parts_size hg
  exact ⟨⟨by omega, by omega⟩, nodesB_arg h.2 hg⟩
theorem parts_kernel_of {f : Fm} (h : kernelB f = true) : fvalidB f = true ∧ layB f = true := by
  unfold kernelB looseB at h
  simp only [Bool.and_eq_true] at h
  exact ⟨h.2, h.1.2⟩
theorem parts_loose {f g : Fm} (h : looseB f = true) (hg : g ∈ f.args) : looseB g = true := by
  unfold looseB at h ⊢
  simp only [Bool.and_eq_true, decide_eq_true_eq] at h ⊢
  obtain ⟨h1, h2⟩ := parts_size hg
  exact ⟨⟨⟨⟨by omega, by omega⟩, nodesB_arg h.1.1.2 hg⟩, Fm.all_arg h.1.2 hg⟩, parts_lay h.2 hg⟩
theorem parts_kernel {f g : Fm} (h : kernelB f = true) (hg : g ∈ f.args) : kernelB g = true := by
  have h' := h
  unfold kernelB at h ⊢
  simp only [Bool.and_eq_true] at h ⊢
  exact ⟨parts_loose h.1 hg, parts_valid h.2 hg⟩
theorem parts_name {f g : Fm} {x : ByteArray} (hg : g ∈ f.args) (hx : x ∈ namesF g) : x ∈ namesF f := by
  rw [mem_names_all] at hx ⊢
  cases e : f.all (noB x)
  · rfl
  · rw [Fm.all_arg e hg] at hx; cases hx

/-- how many names the formulas of a list have, one by one -/
def namesN (l : List Fm) : Nat := (l.map fun g => (namesF g).length).sum
theorem namesN_take {l : List Fm} {k : Nat} (h : k < l.length) : namesN (l.take (k + 1)) = namesN (l.take k) + (namesF l[k]).length := by
  unfold namesN
  rw [List.take_succ_eq_append_getElem h, List.map_append, List.sum_append]
  simp
theorem names_nodes (f : Fm) : (namesF f).length ≤ f.nodes := by
  have := namedF_length f []
  simpa [namesF] using this
theorem namesN_nodes (l : List Fm) : namesN l ≤ Fm.nodesL l := by
  induction l with
  | nil => simp [namesN]
  | cons x l ih =>
    have h1 := names_nodes x
    have h2 : namesN (x :: l) = (namesF x).length + namesN l := by simp [namesN]
    rw [h2, Fm.nodesL_cons]
    omega
theorem nodup_len {α : Type} : ∀ {l m : List α}, l.Nodup → (∀ x ∈ l, x ∈ m) → l.length ≤ m.length
  | [], _, _, _ => Nat.zero_le _
  | x :: l, m, h, hs => by
    obtain ⟨a, b, rfl⟩ := List.append_of_mem (hs x (by simp))
    obtain ⟨h1, h2⟩ := List.pairwise_cons.1 h
    have := nodup_len (l := l) (m := a ++ b) h2 fun y hy => by
      have h3 := hs y (by simp [hy])
      have h4 := h1 y hy
      simp only [List.mem_append, List.mem_cons] at h3 ⊢
      rcases h3 with h3 | h3 | h3
      · exact .inl h3
      · exact absurd h3.symm h4
      · exact .inr h3
    simp only [List.length_append, List.length_cons] at this ⊢
    omega
theorem names_nodup (f : Fm) : (namesF f).Nodup :=
  (namesF_asc f).imp fun {a b} h e => by rw [e, lessN_irrefl] at h; cases h
theorem parts_names {f : Fm} (h : f.op ≠ 3) : (namesF f).length ≤ namesN f.args := by
  have h1 : (namesF f).length ≤ (f.args.flatMap namesF).length := nodup_len (names_nodup f) fun x hx => by
    rw [List.mem_flatMap]
    rw [mem_names_all] at hx
    refine Classical.byContradiction fun hne => ?_
    have : f.all (noB x) = true := Fm.all_mk (by
      have : (f.op == 3) = false := beq_eq_false_iff_ne.2 h
      simp [noB, this]) fun g hg => by
        cases e : g.all (noB x)
        · exact (hne ⟨g, hg, mem_names_all.2 e⟩).elim
        · rfl
    rw [this] at hx; cases hx
  rw [List.length_flatMap] at h1
  exact h1
theorem parts_nodes (f : Fm) : f.nodes = 1 + Fm.nodesL f.args := Fm.nodes_eq f

end Go.Proofs.YtlkoacopknolnaaGreatDoor

/-
  Small things that the walks of the formula laws share: sizes of what is handed back, a box of one's own.
-/
namespace Go.Proofs.YtlkoacopknolnaaGreatDoor
open Go.RowKit

theorem not_small (f : Fm) : (notF f).nodes ≤ 400 := by
  unfold notF
  split
  · next h => exact h.2.1
  · decide
theorem kernel_small (f : Fm) : (kernelF f).1.nodes ≤ 60 := by
  unfold kernelF
  split
  · split
    · next h => exact h.1
    · decide
  · decide

/-- a formula in a box of its own -/
theorem box_new (w : World) (g : Fm) (o : Option Addr) (c : Nat) : ∃ W, Hid (w.alloc (.cells #[.int .i64 g.op, .string g.name, .int .i64 g.val, .int .i64 g.bound, .slice o g.args.length c] 24) = W) ∧ Below w.heap.size w W ∧ W.heap.size = w.heap.size + 1 ∧ Hid (Cells5 W w.heap.size 0 (.int .i64 g.op) (.string g.name) (.int .i64 g.val) (.int .i64 g.bound) (.slice o g.args.length c)) :=
  ⟨_, hidi rfl, below_box _ _, by simp, box5 w _ _ _ _ _ 24⟩

end Go.Proofs.YtlkoacopknolnaaGreatDoor
