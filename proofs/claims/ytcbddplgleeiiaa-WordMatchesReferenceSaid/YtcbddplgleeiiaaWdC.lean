/-
  The contracts of package word's turned and normal.
-/
import Derived.Test.YtcbddplgleeiiaaWdB
namespace Go.Proofs.Ytcbddplgleeiiaa
open Go.RowKit

set_option maxRecDepth 100000 in
set_option maxHeartbeats 1000000 in
theorem turned_zero (B : Nat) (v : Value) (l : List Int) (w : World) (hv : IntsAt B w v l) (hBw : B ≤ w.heap.size) (hf : 0 < l.length) (hl : l.length ≤ 500000) :
    Calls Try.prog 42 #[v, .int .i64 0] w fun e w' => ∃ r, e = .returned r ∧ NewInts w.heap.size w' r l ∧ Below w.heap.size w w' := by
  have hv' := hv.mono hBw
  obtain ⟨o, c, rfl⟩ := hv.shape
  obtain ⟨b, off, rfl, hb, hlc, hcm, hc⟩ := hv'.at (by omega)
  obtain ⟨Z, hZ, hmk⟩ := make_ints l.length (by omega)
  obtain ⟨X1, hX1⟩ : ∃ X1, Hid (X1 = l.map (Value.int .i64)) := ⟨_, rfl⟩
  have n1 : X1.length = l.length := by rw [hX1.out]; simp
  have g3 : ¬ c = 0 := by omega
  have g5 : ¬ l.length = 0 := by omega
  have hA : Below w.heap.size w (w.alloc (.cells Z.toArray 3)) := (Below.refl _ _).alloc (Nat.le_refl _) _
  have s1 : ∀ (W : World), Below w.heap.size w W → ∀ j u, X1[j]? = some u → W.cell? ((⟨b, off, none⟩ : Addr).add j) = some u := by
    intro W hW j u hu
    rw [hX1.out, List.getElem?_map] at hu
    obtain ⟨x, hx, rfl⟩ := Option.map_eq_some_iff.1 hu
    obtain ⟨hj, rfl⟩ := List.getElem?_eq_some_iff.1 hx
    rw [Addr.add_lit]
    exact (hW.cell (p := ⟨b, off + j, none⟩) hb).trans (hc j hj).1
  have o1 : ∀ u ∈ X1, u.oneCell' = true := by rw [hX1.out]; exact ints_one
  have hsz : (Try.prog.info? 3).map (·.size) = some 1 := by kernel_rfl
  have hgw := hidi (show (w.alloc (.cells Z.toArray 3)).heap[w.heap.size]? = some (.cells Z.toArray 3 (0, 0)) from heap_alloc_new w _)
  go_enter Try.func42, Try.ntmps42
  go_wp2_with (with_reducible refine wpList_copy_splice rfl (.tmp 10) (.tmp 13) 22 22 rfl 3 Try.underlying22 hsz (some ⟨w.heap.size, 0, none⟩) (some ⟨b, off, none⟩) l.length l.length l.length c rfl rfl w.heap.size 0 Z 3 hgw.out X1 (by rw [n1]; exact (Nat.min_self _).symm) (fun _ => ⟨rfl, _, rfl, s1 _ hA⟩) (by omega) o1 w.heap.size w hA (Nat.le_refl _) ?_; intro w2 hG2 hB2)
  have hG2' : Hid (w2.drew.heap[w.heap.size]? = some (.cells (splice Z 0 X1).toArray 3 (0, 0))) := hG2.out
  have n3 : ([] : List Value).length = Nat.min 0 0 := rfl
  have n5 : ¬ 0 < ([] : List Value).length := Nat.lt_irrefl 0
  have n4 : l.length + ([] : List Value).length ≤ (splice Z 0 X1).length := by rw [length_splice] <;> simp <;> omega
  go_region_law (with_reducible refine step_copy_splice rfl (.tmp 17) (.tmp 20) 22 22 rfl 3 Try.underlying22 hsz (some ⟨w.heap.size, 0, none⟩) (some ⟨b, off, none⟩) 0 0 0 c rfl rfl w.heap.size l.length (splice Z 0 X1) 3 hG2'.out [] n3 (fun h => absurd h n5) n4 (fun u hu => absurd hu List.not_mem_nil) w.heap.size w hB2.drew (Nat.le_refl _) ?_; intro w3 hG3 hB3)
  go_wp2
  go_ret
  refine ⟨_, rfl, ⟨?_, fun g e => by simp [Value.ownBlock] at e; omega⟩, hB3⟩
  refine row_ints ?_ rfl hv.bd (by omega)
  rw [← hX1.out]
  have e1 := splice2 Z X1 [] _ n1 (by simp; omega)
  rw [List.append_nil] at e1
  rw [← e1]
  exact hG3.out

theorem turned_any (B : Nat) (v : Value) (l : List Int) (f : Nat) (w : World) (hv : IntsAt B w v l) (hBw : B ≤ w.heap.size) (hf : f < l.length) (hl : l.length ≤ 500000) :
    Calls Try.prog 42 #[v, .int .i64 f] w fun e w' => ∃ r, e = .returned r ∧ NewInts w.heap.size w' r (rotL l f) ∧ Below w.heap.size w w' := by
  rcases Nat.eq_zero_or_pos f with rfl | h0
  · rw [rotL_zero]
    exact turned_zero B v l w hv hBw hf hl
  · exact turned_pos B v l f w hv hBw hf h0 hl

end Go.Proofs.Ytcbddplgleeiiaa
