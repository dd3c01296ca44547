/-
  A region in its own order, by facts of the operations' values (as FjA's drawn one).
-/
import Derived.Test.YtlkoacopknolnaaGreatDoorFjB
namespace Go.Proofs.YtlkoacopknolnaaGreatDoor
open Go.RowKit

theorem wp_region_state_seq {P : Program} {ops : Array Oper} {Q : Exit → Act → World → Prop} {id : Nat} {a0 : Act} {w : World} (ho : ordered ops = true) (I : (Nat → Bool) → Act → World → Prop)
    (h0 : I (fun _ => false) a0 w)
    (hstep : ∀ L i a w K, i < ops.size → L i = false → (∀ j, (depsOf ops i).contains j = true → L j = true) → I L a w → (∀ a' w', I (lst L i) a' w' → K a' w') → wpOp P ops Q i K a w)
    (hend : ∀ L a w, (∀ i, i < ops.size → L i = true) → I L a w → Q .normal a w) : (Code.region id ops false).wp P Q a0 w := by
  have key : ∀ m k L a W, k + m = ops.size → (∀ j, L j = decide (j < k)) → I L a W → wpOps P ops Q (List.range' k m) a W := by
    intro m
    induction m with
    | zero =>
      intro k L a W hk hL hI
      exact hend L a W (fun i hi => by rw [hL]; simpa using (show i < k by omega)) hI
    | succ m ih =>
      intro k L a W hk hL hI
      rw [List.range'_succ, wpOps_cons]
      refine hstep L k a W _ (by omega) (by rw [hL]; simp) (fun j hj => ?_) hI fun a' w' h' => ih (k + 1) (lst L k) a' w' (by omega) (fun j => ?_) h'
      · obtain ⟨o, e, hoi, he, -, rfl⟩ := depsOf_spec hj
        have := ordered_spec ho hoi e he
        rw [hL]; simpa using this
      · unfold lst
        by_cases hj : j = k
        · rw [if_pos hj]; simp; omega
        · rw [if_neg hj, hL]
          by_cases h1 : j < k
          · simp [h1]; omega
          · simp [h1]; omega
  refine wp_region ?_
  rw [List.range_eq_range']
  exact key ops.size 0 _ a0 w (by omega) (fun j => by simp) h0

/-- a region in its own order, of facts -/
theorem wp_region_facts_seq {P : Program} {ops : Array Oper} {Q : Exit → Act → World → Prop} {id : Nat} {a0 : Act} {w0 : World} (ho : ordered ops = true) (hap : apartB ops = true) (hbd : boundB ops a0.tmps.size = true) (hdl : (List.range ops.size).all (fun i => (depsOf ops i).all fun j => decide (j < ops.size)) = true) (fs : Nat → Fq)
    (hstep : ∀ i a W K, i < ops.size → Seen ops fs a0 w0 i a W → (∀ v w', (fs i).holds (fun _ => True) v w' → Below W.heap.size W w' → K (a.put (dstOf ops i) v) w') → wpOp P ops Q i K a W)
    (hend : ∀ x W, Below w0.heap.size w0 W → (∀ i d, i < ops.size → dstOf ops i = some d → (fs i).holds (fun _ => True) (x i) W) → Q .normal (putL ops x (List.range ops.size) a0) W) : (Code.region id ops false).wp P Q a0 w0 := by
  refine wp_region_state_seq ho (fun L a W => Below w0.heap.size w0 W ∧ a.tmps.size = a0.tmps.size ∧ a.defers = a0.defers ∧ (∀ e, (∀ j, j < ops.size → dstOf ops j ≠ some e) → a.tmps[e]? = a0.tmps[e]?) ∧
    (∀ j d, j < ops.size → L j = true → dstOf ops j = some d → ∃ v, a.tmps[d]? = some v ∧ (fs j).holds (fun _ => True) v W)) ⟨Below.refl _ _, rfl, rfl, fun _ _ => rfl, fun j d _ h => by cases h⟩ ?_ ?_
  · rintro L i a W K hi hL hd ⟨hB, hsz, hdf, hold, hnew⟩ hK
    have hdeps : ∀ j, (depsOf ops i).contains j = true → j < ops.size := fun j hj => by
      rw [List.all_eq_true] at hdl
      have := hdl i (List.mem_range.2 hi)
      rw [List.all_eq_true] at this
      simpa using this j (by simpa using hj)
    refine hstep i a W K hi ⟨hB, hsz, hold, fun j d hj hjd => hnew j d (hdeps j hj) (hd j hj) hjd⟩ fun v w' hv hb => hK _ _ ⟨hB.trans (hb.mono hB.size), by rw [put_size, hsz], by rw [put_defers, hdf], fun e he => ?_, fun j d hj hLj hjd => ?_⟩
    · cases hdi : dstOf ops i with
      | none => exact hold e he
      | some d =>
        rw [put_at, if_neg]
        · exact hold e he
        · rintro ⟨rfl, -⟩
          exact he i hi hdi
    · by_cases hji : j = i
      · subst hji
        rw [hjd, put_at, if_pos ⟨rfl, by rw [hsz]; exact boundB_spec hbd hj hjd⟩]
        exact ⟨v, rfl, hv⟩
      · have hLj' : L j = true := by unfold lst at hLj; rwa [if_neg hji] at hLj
        obtain ⟨u, hu, hf⟩ := hnew j d hj hLj' hjd
        refine ⟨u, ?_, Fq.stable _ hf hb fun _ _ h => h⟩
        cases hdi : dstOf ops i with
        | none => exact hu
        | some d' =>
          rw [put_at, if_neg]
          · exact hu
          · rintro ⟨rfl, -⟩
            exact apartB_spec hap hi hj (Ne.symm hji) hdi hjd
  · rintro L a W hall ⟨hB, hsz, hdf, hold, hnew⟩
    have key : a = putL ops (fun i => (Act.at a (dstOf ops i)).getD undef) (List.range ops.size) a0 := by
      obtain ⟨k1, k2, k3⟩ := putL_keep (ops := ops) (x := fun i => (Act.at a (dstOf ops i)).getD undef) (List.range ops.size) a0
      refine act_ext (by rw [k1, hsz]) (by rw [k2, hdf]) fun e => ?_
      by_cases he : ∃ j, j < ops.size ∧ dstOf ops j = some e
      · obtain ⟨j, hj, hje⟩ := he
        obtain ⟨v, hv, -⟩ := hnew j e hj (hall j hj) hje
        rw [putL_at hap (List.range ops.size) a0 List.nodup_range (fun i hi => List.mem_range.1 hi) j (List.mem_range.2 hj) e hje (boundB_spec hbd hj hje), hv, hje]
        simp [Act.at, hv]
      · have he' : ∀ j, j < ops.size → dstOf ops j ≠ some e := fun j hj h => he ⟨j, hj, h⟩
        rw [k3 e fun i hi => he' i (List.mem_range.1 hi)]
        exact hold e he'
    rw [key]
    refine hend _ W hB fun i d hi hid => ?_
    obtain ⟨v, hv, hf⟩ := hnew i d hi (hall i hi) hid
    rw [hid]
    simp only [Act.at, Option.bind_some, hv, Option.getD_some]
    exact hf

end Go.Proofs.YtlkoacopknolnaaGreatDoor
