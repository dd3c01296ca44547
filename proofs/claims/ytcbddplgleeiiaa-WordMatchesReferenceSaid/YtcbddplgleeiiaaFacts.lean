/-
  A region that draws its order of evaluation, by facts of the operations' values that no later operation can undo: each operation is looked at once, from whatever its own operands' facts say, and the orders need not be told apart.
-/
import Derived.Test.YtcbddplgleeiiaaWdZ
namespace Go.Proofs.Ytcbddplgleeiiaa
open Go.RowKit

/-- what may be known of a value in a world -/
inductive Fc where
  | free
  | boolF (b : Bool)
  | intF (n : Int)
  | intsF (xs : List Int)
  | lasF (s l : List Int)
  | tabF (T : List (List Int))

def Fc.holds : Fc → Value → World → Prop
  | .free, _, _ => True
  | .boolF b, v, _ => v = .bool b
  | .intF n, v, _ => v = .int .i64 n
  | .intsF xs, v, w => IntsAt w.heap.size w v xs
  | .lasF s l, v, w => LasAt w.heap.size w v s l
  | .tabF T, v, w => TabAt w.heap.size w v T

theorem Fc.stable (f : Fc) {v : Value} {w w' : World} (h : f.holds v w) (hB : Below w.heap.size w w') : f.holds v w' := by
  cases f with
  | free => trivial
  | boolF b => exact h
  | intF n => exact h
  | intsF xs => exact (IntsAt.below h hB (Nat.le_refl _)).mono hB.size
  | lasF s l => exact (LasAt.below h hB (Nat.le_refl _)).mono hB.size
  | tabF T => exact (TabAt.below h hB (Nat.le_refl _)).mono hB.size

/-- the values of the operations' slots, one of them turned -/
def upd (x : Nat → Value) (i : Nat) (v : Value) : Nat → Value := fun j => if j = i then v else x j

theorem wpOp_of_list' {P : Program} {ops : Array Oper} {Q : Exit → Act → World → Prop} {K : Act → World → Prop} {i : Nat} {o : Oper} {a : Act} {w : World} (ho : ops[i]? = some o)
    (h : wpList P ops (Exit.then K Q) [o] a w) : wpOp P ops Q i K a w := by
  have up : ∀ r, o.upon P a K (Exit.then K Q) r → o.upon P a K Q r := by
    intro r h
    cases r with
    | ok x w' => cases x <;> exact h
    | halt x w' => cases x <;> exact h
  unfold wpOp
  rw [ho]
  simp only [wpList] at h
  by_cases hw : Region.wanted o (yielded ops a.tmps) = true
  · simp only [hw, if_true] at h ⊢
    first
      | exact .inl (up _ h)
      | exact h.imp (fun h => up _ h) id
  · simp only [hw, if_false, Bool.false_eq_true] at h ⊢
    exact h

theorem ready_spec {md : Region.Mode} {ops : Array Oper} {listed : Array Bool} {i : Nat} (h : i ∈ Region.ready md ops listed) :
    i < ops.size ∧ listed.getD i true = false ∧ ∀ o, ops[i]? = some o → ∀ e ∈ o.after, Region.binds md e = true → listed.getD e.on false = true := by
  unfold Region.ready at h
  simp only [List.mem_filter, List.mem_range, Bool.and_eq_true, Bool.not_eq_true'] at h
  obtain ⟨h1, h2, h3⟩ := h
  refine ⟨h1, h2, fun o ho e he hb => ?_⟩
  rw [ho] at h3
  simp only [Option.map_some, Option.getD_some, Array.all_eq_true'] at h3
  have := h3 e he
  rw [hb] at this
  simpa using this

/-- every operation comes behind those that it waits for -/
def ordered (ops : Array Oper) : Bool := (List.range ops.size).all fun i => ((ops[i]?).map fun o => o.after.all fun e => decide (e.on < i)).getD true

theorem ordered_spec {ops : Array Oper} (h : ordered ops = true) {i : Nat} {o : Oper} (ho : ops[i]? = some o) : ∀ e ∈ o.after, e.on < i := by
  intro e he
  unfold ordered at h
  rw [List.all_eq_true] at h
  have hi : i < ops.size := (Array.getElem?_eq_some_iff.1 ho).1
  have := h i (List.mem_range.2 hi)
  rw [ho] at this
  simp only [Option.map_some, Option.getD_some, Array.all_eq_true'] at this
  simpa using this e he

theorem ready_none {md : Region.Mode} {ops : Array Oper} {listed : Array Bool} (ho : ordered ops = true) (hsz : listed.size = ops.size) (h : Region.ready md ops listed = []) : ∀ i, i < ops.size → listed.getD i false = true := by
  intro i
  induction i using Nat.strongRecOn with
  | _ i ih =>
    intro hi
    have hi' : i < listed.size := by omega
    cases hb : listed.getD i false with
    | true => rfl
    | false =>
      exfalso
      have hm : i ∈ Region.ready md ops listed := by
        unfold Region.ready
        simp only [List.mem_filter, List.mem_range, Bool.and_eq_true, Bool.not_eq_true']
        refine ⟨hi, ?_, ?_⟩
        · simp only [Array.getD_eq_getD_getElem?, Array.getElem?_eq_getElem hi', Option.getD_some] at hb ⊢
          exact hb
        · rw [Array.getElem?_eq_getElem hi]
          simp only [Option.map_some, Option.getD_some, Array.all_eq_true']
          intro e he
          have hlt := ordered_spec ho (Array.getElem?_eq_getElem hi) e he
          rw [ih e.on hlt (by omega)]
          simp
      rw [h] at hm
      cases hm

theorem count_less : ∀ (l : List Bool) (i : Nat), l[i]? = some false → (l.set i true).count false < l.count false := by
  intro l
  induction l with
  | nil => intro i h; simp at h
  | cons b l ih =>
    intro i h
    cases i with
    | zero => simp at h; subst h; simp
    | succ i =>
      simp only [List.getElem?_cons_succ] at h
      have := ih i h
      simp only [List.set_cons_succ, List.count_cons]
      omega

/-- what an operation waits for -/
def depsOf (ops : Array Oper) (i : Nat) : List Nat := match ops[i]? with
  | some o => (o.after.toList.filter (Region.binds .any)).map (·.on)
  | none => []

theorem depsOf_spec {ops : Array Oper} {i j : Nat} (h : (depsOf ops i).contains j = true) : ∃ o e, ops[i]? = some o ∧ e ∈ o.after ∧ Region.binds .any e = true ∧ e.on = j := by
  unfold depsOf at h
  cases ho : ops[i]? with
  | none => rw [ho] at h; simp at h
  | some o =>
    rw [ho] at h
    simp only [List.contains_eq_mem, decide_eq_true_eq, List.mem_map, List.mem_filter] at h
    obtain ⟨e, ⟨h1, h2⟩, h3⟩ := h
    exact ⟨o, e, rfl, by simpa using h1, h2, h3⟩

theorem wp_region_facts {P : Program} {ops : Array Oper} {Q : Exit → Act → World → Prop} {id : Nat} {w : World} (hm : P.follows .mixedOrders = true) (ho : ordered ops = true) (fs : Nat → Fc) (S : World → Prop) (fr : (Nat → Value) → Act) (x0 : Nat → Value)
    (Sst : ∀ w w', S w → Below w.heap.size w w' → S w') (h0 : S { w with drawn := w.drawn + 1 })
    (hstep : ∀ i x w K, i < ops.size → S w → (∀ j, (depsOf ops i).contains j = true → (fs j).holds (x j) w) →
      (∀ v w', (fs i).holds v w' → Below w.heap.size w w' → K (fr (upd x i v)) w') → wpOp P ops Q i K (fr x) w)
    (hend : ∀ x w, S w → (∀ i, i < ops.size → (fs i).holds (x i) w) → Q .normal (fr x) w) : (Code.region id ops true).wp P Q (fr x0) w := by
  have key : ∀ fuel listed x w, listed.size = ops.size → listed.toList.count false ≤ fuel → S w → (∀ i, i < ops.size → listed.getD i false = true → (fs i).holds (x i) w) → wpAny P .any ops Q fuel listed (fr x) w := by
    intro fuel
    induction fuel with
    | zero =>
      intro listed x w hsz hc hS hf
      have hr : Region.ready .any ops listed = [] := by
        refine List.eq_nil_iff_forall_not_mem.2 fun i hi => ?_
        obtain ⟨h1, h2, -⟩ := ready_spec hi
        have hi' : i < listed.size := by omega
        simp only [Array.getD_eq_getD_getElem?, Array.getElem?_eq_getElem hi', Option.getD_some] at h2
        have := count_less listed.toList i (by simp [hi', h2])
        omega
      have hall := ready_none ho hsz hr
      exact ⟨hr, hend x w hS fun i hi => hf i hi (hall i hi)⟩
    | succ f ih =>
      intro listed x w hsz hc hS hf
      refine ⟨fun hr => hend x w hS fun i hi => hf i hi (ready_none ho hsz hr i hi), fun i hi => ?_⟩
      obtain ⟨h1, h2, h3⟩ := ready_spec hi
      have hi' : i < listed.size := by omega
      simp only [Array.getD_eq_getD_getElem?, Array.getElem?_eq_getElem hi', Option.getD_some] at h2
      refine hstep i x w _ h1 hS (fun j hj => ?_) fun v w' hv hB => ?_
      · obtain ⟨o, e, hoi, he, hb, rfl⟩ := depsOf_spec hj
        have hlt := ordered_spec ho hoi e he
        exact hf e.on (by omega) (h3 o hoi e he hb)
      · refine ih _ _ _ (by simpa using hsz) ?_ (Sst w w' hS hB) fun j hj hl => ?_
        · have := count_less listed.toList i (by simp [hi', h2])
          simp only [Array.toList_setIfInBounds]
          omega
        · unfold upd
          by_cases hji : j = i
          · subst hji
            rw [if_pos rfl]
            exact hv
          · rw [if_neg hji]
            refine Fc.stable _ (hf j hj ?_) hB
            simp only [Array.getD_eq_getD_getElem?] at hl ⊢
            rwa [Array.getElem?_setIfInBounds_ne (Ne.symm hji)] at hl
  refine wp_region_any hm ?_
  exact key ops.size (Array.replicate ops.size false) x0 _ (by simp) (Nat.le_trans List.count_le_length (by simp)) h0 (fun i hi h => by simp [Array.getD_eq_getD_getElem?, hi] at h)

end Go.Proofs.Ytcbddplgleeiiaa
