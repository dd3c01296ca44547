/-
  A region that draws its order of evaluation, by an invariant that knows which operations have been done.
-/
import Derived.Test.YthjpljdohbfihaaFacts
namespace Go.Proofs.Ythjpljdohbfihaa
open Go.RowKit

/-- one more operation has been done -/
def lst (L : Nat → Bool) (i : Nat) : Nat → Bool := fun j => if j = i then true else L j

theorem getD_lst (listed : Array Bool) (i : Nat) (hi : i < listed.size) : (fun j => (listed.setIfInBounds i true).getD j false) = lst (fun j => listed.getD j false) i := by
  funext j
  unfold lst
  simp only [Array.getD_eq_getD_getElem?]
  by_cases h : j = i
  · subst h; simp [hi]
  · rw [Array.getElem?_setIfInBounds_ne (Ne.symm h), if_neg h]

theorem wp_region_inv {P : Program} {ops : Array Oper} {Q : Exit → Act → World → Prop} {id : Nat} {w : World} (hm : P.follows .mixedOrders = true) (ho : ordered ops = true) (I : (Nat → Bool) → (Nat → Value) → World → Prop) (fr : (Nat → Value) → Act) (x0 : Nat → Value)
    (h0 : I (fun _ => false) x0 { w with drawn := w.drawn + 1 })
    (hstep : ∀ L i x w K, i < ops.size → L i = false → (∀ j, (depsOf ops i).contains j = true → L j = true) → I L x w → (∀ v w', I (lst L i) (upd x i v) w' → K (fr (upd x i v)) w') → wpOp P ops Q i K (fr x) w)
    (hend : ∀ L x w, (∀ i, i < ops.size → L i = true) → I L x w → Q .normal (fr x) w) : (Code.region id ops true).wp P Q (fr x0) w := by
  have key : ∀ fuel listed x w, listed.size = ops.size → listed.toList.count false ≤ fuel → I (fun j => listed.getD j false) x w → wpAny P .any ops Q fuel listed (fr x) w := by
    intro fuel
    induction fuel with
    | zero =>
      intro listed x w hsz hc hI
      have hr : Region.ready .any ops listed = [] := by
        refine List.eq_nil_iff_forall_not_mem.2 fun i hi => ?_
        obtain ⟨h1, h2, -⟩ := ready_spec hi
        have hi' : i < listed.size := by omega
        simp only [Array.getD_eq_getD_getElem?, Array.getElem?_eq_getElem hi', Option.getD_some] at h2
        have := count_less listed.toList i (by simp [hi', h2])
        omega
      exact ⟨hr, hend _ x w (ready_none ho hsz hr) hI⟩
    | succ f ih =>
      intro listed x w hsz hc hI
      refine ⟨fun hr => hend _ x w (ready_none ho hsz hr) hI, fun i hi => ?_⟩
      obtain ⟨h1, h2, h3⟩ := ready_spec hi
      have hi' : i < listed.size := by omega
      simp only [Array.getD_eq_getD_getElem?, Array.getElem?_eq_getElem hi', Option.getD_some] at h2
      refine hstep _ i x w _ h1 (by simp [Array.getD_eq_getD_getElem?, hi', h2]) (fun j hj => ?_) hI fun v w' hv => ?_
      · obtain ⟨o, e, hoi, he, hb, rfl⟩ := depsOf_spec hj
        exact h3 o hoi e he hb
      · refine ih _ _ _ (by simpa using hsz) ?_ (by rw [getD_lst _ _ hi']; exact hv)
        have := count_less listed.toList i (by simp [hi', h2])
        simp only [Array.toList_setIfInBounds]
        omega
  refine wp_region_any hm ?_
  refine key ops.size (Array.replicate ops.size false) x0 _ (by simp) (Nat.le_trans List.count_le_length (by simp)) ?_
  have : (fun j => (Array.replicate ops.size false).getD j false) = fun _ => false := by
    funext j
    simp only [Array.getD_eq_getD_getElem?, Array.getElem?_replicate]
    split <;> rfl
  rw [this]
  exact h0

end Go.Proofs.Ythjpljdohbfihaa
