/-
  A region that draws its order of evaluation, by facts of any kind of the operations' values that no later operation can undo.
-/
import Derived.Test.YthjpljdohbfihaaFactsI
namespace Go.Proofs.Ythjpljdohbfihaa
open Go.RowKit

theorem wp_region_gen {P : Program} {ops : Array Oper} {Q : Exit → Act → World → Prop} {id : Nat} {w : World} (hm : P.follows .mixedOrders = true) (ho : ordered ops = true) (G : Nat → Value → World → Prop) (S : World → Prop) (fr : (Nat → Value) → Act) (x0 : Nat → Value)
    (Gst : ∀ i v w w', G i v w → Below w.heap.size w w' → G i v w') (Sst : ∀ w w', S w → Below w.heap.size w w' → S w') (h0 : S { w with drawn := w.drawn + 1 })
    (hstep : ∀ i x w K, i < ops.size → S w → (∀ j, (depsOf ops i).contains j = true → G j (x j) w) → (∀ v w', G i v w' → Below w.heap.size w w' → K (fr (upd x i v)) w') → wpOp P ops Q i K (fr x) w)
    (hend : ∀ x w, S w → (∀ i, i < ops.size → G i (x i) w) → Q .normal (fr x) w) : (Code.region id ops true).wp P Q (fr x0) w := by
  refine wp_region_inv hm ho (fun L x w => S w ∧ ∀ i, L i = true → G i (x i) w) fr x0 ⟨h0, fun i h => by cases h⟩ ?_ fun L x w hall hI => hend x w hI.1 fun i hi => hI.2 i (hall i hi)
  intro L i x w K hi hL hd hI hK
  refine hstep i x w K hi hI.1 (fun j hj => hI.2 j (hd j hj)) fun v w' hv hB => hK v w' ⟨Sst w w' hI.1 hB, fun j hj => ?_⟩
  unfold upd
  by_cases hji : j = i
  · subst hji
    rw [if_pos rfl]
    exact hv
  · rw [if_neg hji]
    refine Gst j _ _ _ (hI.2 j ?_) hB
    unfold lst at hj
    rwa [if_neg hji] at hj

end Go.Proofs.Ythjpljdohbfihaa
