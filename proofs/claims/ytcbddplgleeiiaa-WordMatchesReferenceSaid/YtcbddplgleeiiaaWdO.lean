/-
  Over any program: a region that draws its order of evaluation, in a round of a loop over an iterator, by what holds whenever some of its operations have been carried out.
-/
import Derived.Test.YtcbddplgleeiiaaWdM
namespace Go.Proofs.Ytcbddplgleeiiaa

def openN (listed : Array Bool) : Nat := listed.toList.count false

theorem wpOpIn_of_list {F : Fence} {n : Nat} {P : Program} {ops : Array Oper} {Q : Exit → Act → World → Prop} {K : Act → World → Prop} {i : Nat} {o : Oper} {a : Act} {w : World} (ho : ops[i]? = some o)
    (h : wpListIn F n P ops (Exit.then K Q) [o] a w) : wpOpIn F n P ops Q i K a w := by
  have up : ∀ r, o.uponIn F n P a K (Exit.then K Q) r → o.uponIn F n P a K Q r := by
    intro r h
    cases r with
    | ok x w' => cases x <;> exact h
    | halt x w' => cases x <;> exact h
  unfold wpOpIn
  rw [ho]
  simp only [wpListIn] at h
  by_cases hw : Region.wanted o (yielded ops a.tmps) = true
  · simp only [hw, if_true] at h ⊢
    exact ⟨h.1, up _ h.2⟩
  · simp only [hw, if_false, Bool.false_eq_true] at h ⊢
    exact h

theorem wpIn_region_inv {F : Fence} {n id : Nat} {P : Program} {ops : Array Oper} {Q : Exit → Act → World → Prop} {a : Act} {w : World} (hm : P.follows .mixedOrders = true) (Inv : Array Bool → Act → World → Prop)
    (hlt : ∀ listed a w, Inv listed a w → ∀ i ∈ Region.ready .any ops listed, openN (listed.setIfInBounds i true) < openN listed)
    (hstep : ∀ listed a w, Inv listed a w → ∀ i ∈ Region.ready .any ops listed, wpOpIn F n P ops Q i (fun a' w' => Inv (listed.setIfInBounds i true) a' w') a w)
    (hdone : ∀ listed a w, Inv listed a w → Region.ready .any ops listed = [] → Q .normal a w)
    (h0 : Inv (Array.replicate ops.size false) a { w with drawn := w.drawn + 1 }) : (Code.region id ops true).wpIn F n P Q a w := by
  have key : ∀ fuel listed a w, Inv listed a w → openN listed ≤ fuel → wpAnyIn F n P .any ops Q fuel listed a w := by
    intro fuel
    induction fuel with
    | zero =>
      intro listed a w hI hc
      have hr : Region.ready .any ops listed = [] := by
        refine List.eq_nil_iff_forall_not_mem.2 fun i hi => ?_
        have := hlt listed a w hI i hi
        omega
      exact ⟨hr, hdone listed a w hI hr⟩
    | succ f ih =>
      intro listed a w hI hc
      refine ⟨hdone listed a w hI, fun i hi => wpOpIn_mono (fun a' w' h => ih _ a' w' h ?_) (hstep listed a w hI i hi)⟩
      have := hlt listed a w hI i hi
      omega
  refine wpIn_region_any hm (key _ _ _ _ h0 ?_)
  unfold openN
  exact Nat.le_trans List.count_le_length (by simp)

/-- the operations of a region, by its number -/
def findRegion (id : Nat) : Code → Option (Array Oper)
  | .region i ops _ => if i == id then some ops else none
  | .seq a b => match findRegion id a with
    | some x => some x
    | none => findRegion id b
  | .cond _ a b => match findRegion id a with
    | some x => some x
    | none => findRegion id b
  | .block _ a => findRegion id a
  | .loop a => findRegion id a
  | .rangeFunc _ _ a b => match findRegion id a with
    | some x => some x
    | none => findRegion id b
  | .scope a => findRegion id a
  | _ => none
def opsAt (f : Func) (id : Nat) : Array Oper := match f.body with
  | some c => (findRegion id c).getD #[]
  | none => #[]

def allB (p : Bool → Bool) : Bool := p true && p false
theorem allB_spec {p : Bool → Bool} (h : allB p = true) (b : Bool) : p b = true := by
  unfold allB at h
  simp only [Bool.and_eq_true] at h
  cases b
  · exact h.2
  · exact h.1

/-- which operation of the zipped word's round may come up when -/
def zipOk (b0 b1 b2 b3 b4 b5 b6 b7 : Bool) : Nat → Bool
  | 0 => !b0
  | 1 => !b1
  | 2 => !b2
  | 3 => !b3
  | 4 => !b4 && b3
  | 5 => !b5 && b1 && b2 && b4
  | 6 => !b6 && b0 && b5
  | 7 => !b7 && b6
  | _ => false

theorem zip_ready : (allB fun b0 => allB fun b1 => allB fun b2 => allB fun b3 => allB fun b4 => allB fun b5 => allB fun b6 => allB fun b7 =>
    (Region.ready .any (opsAt Try.f55 4) #[b0, b1, b2, b3, b4, b5, b6, b7]).all (zipOk b0 b1 b2 b3 b4 b5 b6 b7) && (!(Region.ready .any (opsAt Try.f55 4) #[b0, b1, b2, b3, b4, b5, b6, b7]).isEmpty || (b6 && b7))) = true := by kernel_rfl

theorem zip_ready_at (b0 b1 b2 b3 b4 b5 b6 b7 : Bool) : (∀ i ∈ Region.ready .any (opsAt Try.f55 4) #[b0, b1, b2, b3, b4, b5, b6, b7], zipOk b0 b1 b2 b3 b4 b5 b6 b7 i = true) ∧
    (Region.ready .any (opsAt Try.f55 4) #[b0, b1, b2, b3, b4, b5, b6, b7] = [] → b6 = true ∧ b7 = true) := by
  have h := allB_spec (allB_spec (allB_spec (allB_spec (allB_spec (allB_spec (allB_spec (allB_spec zip_ready b0) b1) b2) b3) b4) b5) b6) b7
  simp only [Bool.and_eq_true, List.all_eq_true, Bool.or_eq_true, Bool.not_eq_true', Bool.and_eq_true] at h
  refine ⟨h.1, fun e => ?_⟩
  rcases h.2 with h2 | h2
  · rw [e] at h2; cases h2
  · exact h2

theorem zip_less (b0 b1 b2 b3 b4 b5 b6 b7 : Bool) (i : Nat) (h : zipOk b0 b1 b2 b3 b4 b5 b6 b7 i = true) : openN (#[b0, b1, b2, b3, b4, b5, b6, b7].setIfInBounds i true) < openN #[b0, b1, b2, b3, b4, b5, b6, b7] := by
  match i, h with
  | 0, h => simp [zipOk] at h; subst h; simp [openN, List.count_cons]
  | 1, h => simp [zipOk] at h; subst h; simp [openN, List.count_cons]
  | 2, h => simp [zipOk] at h; subst h; simp [openN, List.count_cons]
  | 3, h => simp [zipOk] at h; subst h; simp [openN, List.count_cons]
  | 4, h => simp [zipOk] at h; obtain ⟨rfl, _⟩ := h; simp [openN, List.count_cons]
  | 5, h => simp [zipOk] at h; obtain ⟨⟨⟨rfl, _⟩, _⟩, _⟩ := h; simp [openN, List.count_cons]
  | 6, h => simp [zipOk] at h; obtain ⟨⟨rfl, _⟩, _⟩ := h; simp [openN, List.count_cons]
  | 7, h => simp [zipOk] at h; obtain ⟨rfl, _⟩ := h; simp [openN, List.count_cons]
  | n + 8, h => simp [zipOk] at h

end Go.Proofs.Ytcbddplgleeiiaa
