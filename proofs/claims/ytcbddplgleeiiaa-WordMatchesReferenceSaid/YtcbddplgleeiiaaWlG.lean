/-
  The contract of the law's agree.
-/
import Derived.Test.YtcbddplgleeiiaaWlF
namespace Go.Proofs.Ytcbddplgleeiiaa
open Go.RowKit

/-- have two words the same letters at the positions from k on and below n -/
def agreeFrom (sa la sb lb : List Int) (n k : Nat) : Bool := ((List.range n).drop k).all fun i => decide (atI sa la i = atI sb lb i)

theorem agreeFrom_step {sa la sb lb : List Int} {n k : Nat} (h : k < n) : agreeFrom sa la sb lb n k = (decide (atI sa la k = atI sb lb k) && agreeFrom sa la sb lb n (k + 1)) := by
  unfold agreeFrom
  rw [List.drop_eq_getElem_cons (by simpa using h), List.all_cons]
  simp

set_option maxRecDepth 100000 in
set_option maxHeartbeats 2000000 in
theorem agree_any (B : Nat) (u v : Value) (sa la sb lb : List Int) (n : Nat) (w : World) (hu : LasAt B w u sa la) (hv : LasAt B w v sb lb) (hBw : B ≤ w.heap.size) (hn : n ≤ 100000) :
    Calls Try.prog 31 #[u, v, .int .i64 n] w fun e w' => e = .returned (.bool (agreeFrom sa la sb lb n 0)) ∧ Below w.heap.size w w' := by
  have hu' := hu.mono hBw
  have hv' := hv.mono hBw
  obtain ⟨o1, c1, o2, c2, rfl, -, -⟩ := hu.open
  obtain ⟨o3, c3, o4, c4, rfl, -, -⟩ := hv.open
  obtain ⟨W0, hW0, hB0, hT⟩ := two_open w (.slice o1 sa.length c1) (.slice o2 la.length c2) (.slice o3 sb.length c3) (.slice o4 lb.length c4)
  have q1 := hT.out.lt
  have q0 : w.heap.size < W0.heap.size := by omega
  obtain ⟨e0, e1, e2, e3, -, -, -, -⟩ := hT.out.cells
  have keep : ∀ {W W' : World}, Below W0.heap.size W0 W → Below W.heap.size W W' → W'.cell? ⟨w.heap.size, 0, none⟩ = some (.slice o1 sa.length c1) ∧ W'.cell? ⟨w.heap.size, 1, none⟩ = some (.slice o2 la.length c2) ∧ W'.cell? ⟨w.heap.size + 1, 0, none⟩ = some (.slice o3 sb.length c3) ∧ W'.cell? ⟨w.heap.size + 1, 1, none⟩ = some (.slice o4 lb.length c4) ∧ Below W0.heap.size W0 W' := by
    intro W W' h1 h2
    have h := h1.trans (h2.mono h1.size)
    exact ⟨(h.cell (p := ⟨w.heap.size, 0, none⟩) q0).trans e0, (h.cell (p := ⟨w.heap.size, 1, none⟩) q0).trans e1, (h.cell (p := ⟨w.heap.size + 1, 0, none⟩) q1).trans e2, (h.cell (p := ⟨w.heap.size + 1, 1, none⟩) q1).trans e3, h⟩
  clear e0 e1 e2 e3
  go_enter Try.func31, Try.ntmps31
  go_wp2
  rw [hW0.out]
  go_loopw [7] (fun i wr => ∃ k : Nat, k ≤ n ∧ i = .int .i64 k ∧ Below W0.heap.size W0 wr ∧ Hid (agreeFrom sa la sb lb n 0 = agreeFrom sa la sb lb n k)) (fun i _ => n - (intOf i).toNat)
  case atStart => exact ⟨0, Nat.zero_le _, rfl, Below.refl _ _, rfl⟩
  case round =>
    obtain ⟨k, hk, rfl, hB, hF⟩ := hrel
    by_cases hlt : k < n
    · have hS := hidi (agreeFrom_step (sa := sa) (la := la) (sb := sb) (lb := lb) hlt)
      have hi : (k : Int) < (n : Int) := by omega
      have hst := keep hB.drew (Below.refl _ _)
      cases heq : (atI sa la k != atI sb lb k)
      all_goals go_wp2_with fail
      all_goals go_region_held3 (fun W => W.cell? ⟨w.heap.size, 0, none⟩ = some (.slice o1 sa.length c1) ∧ W.cell? ⟨w.heap.size, 1, none⟩ = some (.slice o2 la.length c2) ∧ W.cell? ⟨w.heap.size + 1, 0, none⟩ = some (.slice o3 sb.length c3) ∧ W.cell? ⟨w.heap.size + 1, 1, none⟩ = some (.slice o4 lb.length c4) ∧ Below W0.heap.size W0 W) (first | exact hst | exact keep q9 hb) (first
        | (obtain ⟨-, -, -, -, q9⟩ : _ ∧ _ ∧ _ ∧ _ ∧ Below W0.heap.size W0 _ := (by assumption); go_at_call 14; (with_reducible refine (at_any w.heap.size (.agg #[.slice o1 sa.length c1, .slice o2 la.length c2]) sa la k _ (hu'.below (hB0.trans (q9.mono hB0.size)) (Nat.le_refl _)) (Nat.le_trans hB0.size q9.size) (by omega)).mono ?_); rintro e w' ⟨rfl, hb⟩)
        | (obtain ⟨-, -, -, -, q9⟩ : _ ∧ _ ∧ _ ∧ _ ∧ Below W0.heap.size W0 _ := (by assumption); go_at_call 14; (with_reducible refine (at_any w.heap.size (.agg #[.slice o3 sb.length c3, .slice o4 lb.length c4]) sb lb k _ (hv'.below (hB0.trans (q9.mono hB0.size)) (Nat.le_refl _)) (Nat.le_trans hB0.size q9.size) (by omega)).mono ?_); rintro e w' ⟨rfl, hb⟩))
      · go_wp2
        go_roundw
        case rel =>
          obtain ⟨-, -, -, -, q9⟩ : _ ∧ _ ∧ _ ∧ _ ∧ Below W0.heap.size W0 _ := (by assumption)
          exact ⟨k + 1, by omega, by go_num, q9, hF.out.trans (hS.out.trans (by rw [decide_eq_true (by simpa using heq), Bool.true_and]))⟩
        case measure => simp [intOf]; omega
      · go_wp2
        go_ret
        obtain ⟨-, -, -, -, q9⟩ : _ ∧ _ ∧ _ ∧ _ ∧ Below W0.heap.size W0 _ := (by assumption)
        exact ⟨ret_bool (by rw [hF.out, hS.out, decide_eq_false (by simpa using heq)]; rfl), hB0.trans (q9.mono hB0.size)⟩
    · have hi : ¬ (k : Int) < (n : Int) := by omega
      go_wp2
      go_ret
      exact ⟨ret_bool (by rw [hF.out]; unfold agreeFrom; rw [List.drop_of_length_le (by simp; omega)]; rfl), hB0.trans (hB.mono hB0.size)⟩

end Go.Proofs.Ytcbddplgleeiiaa
