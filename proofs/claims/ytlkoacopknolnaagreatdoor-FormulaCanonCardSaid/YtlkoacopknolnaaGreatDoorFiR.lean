/-
  Canonical forms of loose kernels are loose kernels, and those of kernels are kernels.
-/
import Derived.Test.YtlkoacopknolnaaGreatDoorFiQ
namespace Go.Proofs.YtlkoacopknolnaaGreatDoor

/-- well-formed, or a conjunction or disjunction of whatever number of arguments -/
def weakB (f : Fm) : Bool := nodeB f || (decide (f.op = 5 ∨ f.op = 6) && (f.name.toList.isEmpty && (f.val == 0 && (f.bound == 0 && decide (2 ≤ f.args.length)))))
theorem weak_nodes (f : Fm) : f.nodes ≤ 1000000 → f.all weakB = true → nodesB f = true := by
  induction f using Fm.ind with
  | h f ih =>
    intro hn h
    refine nodes_mk ?_ fun x hx => ih x hx (by
      obtain ⟨k, hk, rfl⟩ := List.mem_iff_getElem.1 hx
      have h1 := Fm.nodes_get hk
      rw [Fm.nodes_eq f] at hn
      omega) (Fm.all_arg h hx)
    have h0 := Fm.all_self h
    unfold weakB at h0
    rw [Bool.or_eq_true] at h0
    rcases h0 with h0 | h0
    · exact h0
    · simp only [Bool.and_eq_true, decide_eq_true_eq, beq_iff_eq] at h0
      obtain ⟨ho, hnm, hv, hb, hl⟩ := h0
      have hlen : f.args.length ≤ 1000000 := by
        have := Fm.length_le_nodes f.args
        rw [Fm.nodes_eq f] at hn
        omega
      have e : f.name = ⟨#[]⟩ := by
        have h1 : f.name.toList = [] := by simpa using hnm
        exact bytes_inj (by rw [h1, ByteArray.toList_eq])
      have e2 : f = .mk f.op ⟨#[]⟩ 0 0 f.args := by rw [← e, ← hv]; exact Fm.ext rfl rfl rfl (by show f.bound = f.val; rw [hb, hv]) rfl
      rw [e2]
      have hm : fMost (5 : Int).toNat = 9223372036854775807 ∧ fMost (6 : Int).toNat = 9223372036854775807 ∧ fLeast (5 : Int).toNat = 2 ∧ fLeast (6 : Int).toNat = 2 := ⟨rfl, rfl, rfl, rfl⟩
      obtain ⟨m1, m2, m3, m4⟩ := hm
      rcases ho with ho | ho <;> rw [ho]
      · exact nodeB_made (by omega) (by omega) ⟨by omega, by decide⟩ ⟨by rw [m3]; omega, by rw [m1]; omega⟩
      · exact nodeB_made (by omega) (by omega) ⟨by omega, by decide⟩ ⟨by rw [m4]; omega, by rw [m2]; omega⟩
theorem nodes_weak {f : Fm} (h : nodesB f = true) : f.all weakB = true := Fm.all_mono (fun g hg => by unfold weakB; rw [hg]; rfl) f h
theorem weak_const : weakB (mkOp 1 []) = true ∧ weakB (mkOp 2 []) = true := by
  have h1 := Fm.all_self nodes_true
  have h2 := Fm.all_self nodes_false
  unfold weakB
  rw [h1, h2]
  exact ⟨rfl, rfl⟩
theorem weak_mk {o : Int} (ho : gath o) {l : List Fm} (hl : 2 ≤ l.length) : weakB (mkOp o l) = true := by
  unfold weakB
  have h1 : (mkOp o l).op = o := rfl
  have h2 : (mkOp o l).name = ⟨#[]⟩ := rfl
  have h3 : (mkOp o l).val = 0 := rfl
  have h4 : (mkOp o l).bound = 0 := rfl
  have h5 : (mkOp o l).args = l := rfl
  rw [h1, h2, h3, h4, h5]
  have : o = 5 ∨ o = 6 := ho
  simp [this, hl, ByteArray.toList_eq]
theorem nodeB_map {f : Fm} {l : List Fm} (hl : l.length = f.args.length) : nodeB (.mk f.op f.name f.val f.bound l) = nodeB f := by
  cases f
  unfold nodeB nameOkB
  simp only [Fm.op, Fm.name, Fm.val, Fm.bound, Fm.args] at hl ⊢
  simp only [hl]
  congr

/-- a property of all nodes goes over to canonical forms -/
theorem canonF_all {p : Fm → Bool} (h1 : p (mkOp 1 []) = true) (h2 : p (mkOp 2 []) = true) (hn : ∀ (o : Int) (l : List Fm), gath o → 2 ≤ l.length → p (mkOp o l) = true)
    (f : Fm) : nodesB f = true → f.all (fun g => p (.mk g.op g.name g.val g.bound (g.args.map canonF))) = true → (canonF f).all p = true := by
  induction f using Fm.ind with
  | h f ih =>
    intro h hp
    have hnb := nodesB_self h
    rw [canonF_eq]
    refine canonN_all (fun x hx => ?_) (fun h8 h0 => (nodeB_arity hnb).1 h8 (by simpa using h0)) (fun h9 => by rw [List.length_map]; exact (nodeB_arity hnb).2 h9) (Fm.all_self (p := fun g => p (.mk g.op g.name g.val g.bound (g.args.map canonF))) hp) h1 h2 (fun l hl ho => hn _ l ho hl)
    obtain ⟨y, hy, rfl⟩ := List.mem_map.1 hx
    exact ih y hy (nodesB_arg h hy) (Fm.all_arg hp hy)
theorem canon_weak {f : Fm} (h : nodesB f = true) : (canonF f).all weakB = true := by
  refine canonF_all weak_const.1 weak_const.2 (fun o l ho hl => weak_mk ho hl) f h ?_
  refine Fm.all_mono (fun g hg => ?_) f h
  unfold weakB
  rw [nodeB_map (by rw [List.length_map]), hg]; rfl
theorem canon_past {f : Fm} (h : nodesB f = true) (hp : pastB f = true) : pastB (canonF f) = true :=
  canonF_all (p := fun g => !futB g.op) rfl rfl (fun o l ho _ => by rcases ho with rfl | rfl <;> rfl) f h (Fm.all_mono (fun g hg => hg) f hp)
theorem canon_lay {f : Fm} (h : nodesB f = true) (hp : layB f = true) : layB (canonF f) = true := by
  refine canonF_all (p := fun g => !lateB g.op || g.args.all pastB) rfl rfl (fun o l ho _ => by rcases ho with rfl | rfl <;> rfl) f h ?_
  have hb : f.all (fun g => (!lateB g.op || g.args.all pastB) && nodesB g) = true := by
    rw [Fm.all_and]
    have h2 : f.all nodesB = true := by
      clear hp
      induction f using Fm.ind with
      | h f ih => exact Fm.all_mk h fun g hg => ih g hg (nodesB_arg h hg)
    have h1 : f.all (fun g => !lateB g.op || g.args.all pastB) = true := hp
    rw [h1, h2]; rfl
  refine Fm.all_mono (fun g hg => ?_) f hb
  rw [Bool.and_eq_true] at hg
  obtain ⟨g1, g2⟩ := hg
  show (!lateB g.op || (g.args.map canonF).all pastB) = true
  cases e : lateB g.op
  · rfl
  · simp only [e, Bool.not_true, Bool.false_or, List.all_eq_true] at g1 ⊢
    intro X hX
    obtain ⟨x, hx, rfl⟩ := List.mem_map.1 hX
    exact canon_past (nodesB_arg g2 hx) (g1 x hx)
theorem core_mk {o : Int} (ho : gath o) (l : List Fm) : coreNodeB (mkOp o l) = true := by
  unfold coreNodeB coreOpB btwB
  show ((decide (1 ≤ o) && decide (o ≤ 6) || _ || _) && (!(o == 4) || _)) = true
  rcases ho with rfl | rfl <;> rfl
theorem canon_core {f : Fm} (h : nodesB f = true) (hc : coreB f = true) : coreB (canonF f) = true := by
  refine canonF_all (p := coreNodeB) rfl rfl (fun o l ho _ => core_mk ho l) f h ?_
  have hb : f.all (fun g => coreNodeB g && nodeB g) = true := by
    rw [Fm.all_and]
    have h1 : f.all coreNodeB = true := hc
    have h2 : f.all nodeB = true := h
    rw [h1, h2]; rfl
  refine Fm.all_mono (fun g hg => ?_) f hb
  rw [Bool.and_eq_true] at hg
  obtain ⟨g1, g2⟩ := hg
  have g3 := g1
  unfold coreNodeB at g1 ⊢
  show (coreOpB g.op && (!(g.op == 4) || arg0 (.mk g.op g.name g.val g.bound (g.args.map canonF)) == 3)) = true
  rw [Bool.and_eq_true] at g1 ⊢
  refine ⟨g1.1, ?_⟩
  by_cases h4 : g.op = 4
  · obtain ⟨x, hx, h3⟩ := core_not g2 g3 h4
    rw [hx]
    have : arg0 (.mk g.op g.name g.val g.bound ([x].map canonF)) = (canonF x).op := rfl
    rw [this, canon_is h3]
    show (!(g.op == 4) || x.op == 3) = true
    rw [h3]; simp
  · have : (g.op == 4) = false := beq_eq_false_iff_ne.2 h4
    rw [this]; rfl

theorem depthL_le {l : List Fm} {d : Nat} : Fm.depthL l ≤ d ↔ ∀ x ∈ l, x.depth ≤ d := by
  induction l with
  | nil => rw [Fm.depthL_nil]; simp
  | cons x l ih =>
    rw [Fm.depthL_cons]
    simp only [List.mem_cons, forall_eq_or_imp]
    rw [← ih]
    omega
theorem depth_mkOp (o : Int) (l : List Fm) : (mkOp o l).depth = Fm.depthL l + 1 := Fm.depth_eq _
theorem depth_norm {o : Int} {s : List Fm} {d : Nat} (h : ∀ x ∈ s, x.depth ≤ d) : (normF o s).depth ≤ d + 1 := by
  have hu : (unitF o).depth = 1 := by unfold unitF; split <;> rw [depth_mkOp, Fm.depthL_nil]
  have hz : (nullF o).depth = 1 := by unfold nullF; split <;> rw [depth_mkOp, Fm.depthL_nil]
  unfold normF
  by_cases hb : badL s (nullF o)
  · rw [settle_bad hb]
    show (nullF o).depth ≤ _
    omega
  · have h2 : ∀ x ∈ settleF s (unitF o) (nullF o), x.depth ≤ d := fun x hx => h x ((mem_settle_good hb).1 hx).1
    generalize settleF s (unitF o) (nullF o) = r at h2
    match r, h2 with
    | [], _ => show (unitF o).depth ≤ _; omega
    | [x], h2 => have := h2 x (by simp); show x.depth ≤ _; omega
    | x :: y :: r, h2 => show (mkOp o (x :: y :: r)).depth ≤ _; rw [depth_mkOp]; have := depthL_le.2 h2; omega
theorem depth_flat {o : Int} {l : List Fm} {d : Nat} (h : ∀ x ∈ l, x.depth ≤ d) : ∀ x ∈ flatF o l, x.depth ≤ d := by
  intro x hx
  obtain ⟨f, hf, ⟨-, h1⟩ | ⟨-, rfl⟩⟩ := mem_flatF.1 hx
  · obtain ⟨k, hk, rfl⟩ := List.mem_iff_getElem.1 h1
    have h2 := Fm.depth_get hk
    have h3 := h f hf
    rw [Fm.depth_eq f] at h3
    omega
  · exact h x hf
theorem depth_canonF (f : Fm) : nodesB f = true → (canonF f).depth ≤ f.depth := by
  induction f using Fm.ind with
  | h f ih =>
    intro h
    have hn := nodesB_self h
    have h1 : Fm.depthL (f.args.map canonF) ≤ Fm.depthL f.args := depthL_le.2 fun X hX => by
      obtain ⟨x, hx, rfl⟩ := List.mem_map.1 hX
      exact Nat.le_trans (ih x hx (nodesB_arg h hx)) (depthL_le.1 (Nat.le_refl _) x hx)
    have hm := depthL_le.1 h1
    rw [canonF_eq, Fm.depth_eq f]
    have hself : (Fm.mk f.op f.name f.val f.bound (f.args.map canonF)).depth ≤ Fm.depthL f.args + 1 := by rw [Fm.depth_eq]; exact Nat.succ_le_succ h1
    have a1 := (nodeB_arity hn).1
    have a2 := (nodeB_arity hn).2
    unfold canonN
    split
    · rw [joinF_norm]
      exact depth_norm (depth_flat hm)
    · split
      · next h8 =>
        split
        · have := a1 h8
          generalize f.args = l at this hm
          match l, this with
          | x :: r, _ => have := hm (canonF x) (by simp); show (canonF x).depth ≤ _; omega
        · exact hself
      · split
        · next h9 =>
          split
          · have := a2 (.inl h9)
            generalize f.args = l at this hm
            match l, this with
            | x :: y :: r, _ => have := hm (canonF y) (by simp); show (canonF y).depth ≤ _; omega
          · exact hself
        · split
          · next h9 =>
            split
            · have := a2 (.inr h9)
              generalize f.args = l at this hm
              match l, this with
              | x :: y :: r, _ => have := hm (canonF y) (by simp); show (canonF y).depth ≤ _; omega
            · exact hself
          · exact hself
theorem loose_parts {f : Fm} : looseB f = true ↔ f.nodes ≤ 400 ∧ f.depth ≤ 60 ∧ nodesB f = true ∧ coreB f = true ∧ layB f = true := by
  unfold looseB
  simp only [Bool.and_eq_true, decide_eq_true_eq, and_assoc]
theorem loose_canonF {f : Fm} (h : looseB f = true) : looseB (canonF f) = true := by
  obtain ⟨h1, h2, h3, h4, h5⟩ := loose_parts.1 h
  have n1 := nodes_canonF f h3
  have n2 := depth_canonF f h3
  exact loose_parts.2 ⟨by omega, by omega, weak_nodes _ (by omega) (canon_weak h3), canon_core h3 h4, canon_lay h3 h5⟩
theorem kernel_canonF {f : Fm} (h : kernelB f = true) : kernelB (canonF f) = true := by
  unfold kernelB at h ⊢
  rw [Bool.and_eq_true] at h ⊢
  obtain ⟨h1, h2⟩ := h
  have h3 := loose_canonF h1
  refine ⟨h3, ?_⟩
  have h4 := (loose_parts.1 h1).2.2.1
  have n1 := nodes_canonF f h4
  have n2 := depth_canonF f h4
  unfold fvalidB at h2 ⊢
  simp only [Bool.and_eq_true, decide_eq_true_eq] at h2 ⊢
  exact ⟨⟨by omega, by omega⟩, (loose_parts.1 h3).2.2.1⟩
/-- a join of canonical forms is a loose kernel, if it is not too large -/
theorem loose_join {o : Int} (ho : gath o) {l : List Fm} (h : ∀ x ∈ l, nodesB x = true ∧ coreB x = true ∧ layB x = true) (h1 : Fm.nodesL l ≤ 399) (h2 : Fm.depthL l ≤ 59) : looseB (joinF o l) = true := by
  have n1 := nodes_joinF o l
  have n2 : (joinF o l).depth ≤ 60 := by rw [joinF_norm]; exact depth_norm (depth_flat (depthL_le.1 h2))
  refine loose_parts.2 ⟨by omega, n2, weak_nodes _ (by omega) ?_, ?_, ?_⟩
  · exact all_joinF ho (fun x hx => nodes_weak (h x hx).1) weak_const.1 weak_const.2 fun l hl => weak_mk ho hl
  · exact all_joinF (p := coreNodeB) ho (fun x hx => (h x hx).2.1) rfl rfl fun l _ => core_mk ho l
  · exact all_joinF (p := fun g => !lateB g.op || g.args.all pastB) ho (fun x hx => (h x hx).2.2) rfl rfl fun l _ => by rcases ho with rfl | rfl <;> rfl

end Go.Proofs.YtlkoacopknolnaaGreatDoor
