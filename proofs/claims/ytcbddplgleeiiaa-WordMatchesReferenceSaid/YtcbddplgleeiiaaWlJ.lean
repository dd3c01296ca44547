/-
  The contract of the law's first: the table whose elements are their row numbers.
-/
import Derived.Test.YtcbddplgleeiiaaWlI
namespace Go.Proofs.Ytcbddplgleeiiaa
open Go.RowKit

theorem rows_info : ∃ i, Try.prog.info? 22 = some i ∧ i.zero = some (.slice none 0 0) ∧ i.size = 1 ∧ i.bytes = 24 := by
  have h : (Try.prog.info? 22).map (fun i => (i.zero, i.size, i.bytes)) = some (some (.slice none 0 0), 1, 24) := by kernel_rfl
  obtain ⟨i, h1, h2⟩ := Option.map_eq_some_iff.1 h
  simp only [Prod.mk.injEq] at h2
  exact ⟨i, h1, h2.1, h2.2.1, h2.2.2⟩

theorem own_types {X : World} {B B' n n' : Nat} {v u : Value} {xs ys : List Value} (h : X.ownsRow B 3 1 v n xs) (k : X.ownsRow B' 22 1 u n' ys) : v.ownBlock = none ∨ v.ownBlock ≠ u.ownBlock := by
  obtain ⟨-, ⟨hv, _⟩ | ⟨b, cap, arr, rfl, -, hh, -⟩⟩ := h
  · left; rw [hv]; rfl
  · right
    intro e
    obtain ⟨-, ⟨hu, _⟩ | ⟨b', cap', arr', rfl, -, hk, -⟩⟩ := k
    · rw [hu] at e; simp [Value.ownBlock] at e
    · simp only [Value.ownBlock, Option.some.injEq] at e
      subst e
      rw [hh] at hk
      simp at hk

theorem own_low {X : World} {B n : Nat} {v : Value} {xs : List Value} (h : X.ownsRow B 3 1 v n xs) : X.ownsRow 0 3 1 v n xs := by
  obtain ⟨e, h | ⟨g, cap, arr, hv, _, h⟩⟩ := h
  · exact ⟨e, .inl h⟩
  · exact ⟨e, .inr ⟨g, cap, arr, hv, Nat.zero_le _, h⟩⟩

/-- the rows that have been made so far -/
def RowsAt (w : World) (rows : List Value) : Prop := ∀ j (h : j < rows.length), w.ownsRow 0 3 1 rows[j] 64 (List.replicate 64 (.int .i64 (j : Int)))

theorem RowsAt.grown {X Y : World} {rows : List Value} {row : Option Nat} (h : RowsAt X rows) (hg : X.grownBy Y row) (hr : ∀ j (hj : j < rows.length), rows[j].ownBlock = none ∨ rows[j].ownBlock ≠ row) : RowsAt Y rows :=
  fun j hj => (h j hj).kept hg (hr j hj)

theorem rows_tab {w : World} {B : Nat} {v : Value} {rows : List Value} (h : w.ownsRow B 22 1 v 64 rows) (hR : RowsAt w rows) : TabAt w.heap.size w v firstT := by
  have hl : firstT.length = 64 := by simp [firstT, rowsT]
  have hrl : rows.length = 64 := by have := h.1; omega
  have h' := h
  obtain ⟨-, ⟨hv, h0⟩ | ⟨g, cap, arr, rfl, -, hh, h1, h2, -⟩⟩ := h'
  · simp at h0
  · refine .inr ⟨g, 0, cap, by rw [hl], (Array.getElem?_eq_some_iff.1 hh).1, by rw [hl]; exact h1, ?_, fun k hk => ⟨rows[k]'(by omega), ?_, ?_⟩⟩
    · unfold maxLen at h2; omega
    · have := h.cells (g := g) rfl k (rows[k]'(by omega)) (by simp)
      rw [Addr.add_lit] at this
      exact this
    · have := ints_of_owns (xs := List.replicate 64 (k : Int)) (by rw [List.map_replicate]; exact hR k (by omega)) (by simp) (fun x hx => by rw [List.mem_replicate] at hx; omega)
      simpa [firstT, rowsT] using this

set_option maxRecDepth 100000 in
set_option maxHeartbeats 2000000 in
theorem lawfirst_any (w : World) : Calls Try.prog 32 #[] w fun e w' => ∃ r, e = .returned r ∧ TabAt w'.heap.size w' r firstT ∧ Below w.heap.size w w' := by
  obtain ⟨i0, hi, hz, hs, hb⟩ := rows_info
  go_enter Try.func32, Try.ntmps32
  go_wp2
  go_loopw [1, 2] (fun out i wr => ∃ (k : Nat) (rows : List Value), k ≤ 64 ∧ i = .int .i64 k ∧ wr.ownsRow w.heap.size 22 1 out k rows ∧ Hid (RowsAt wr rows) ∧ Below w.heap.size w wr) (fun _ i _ => 64 - (intOf i).toNat)
  case atStart => exact ⟨0, [], by omega, rfl, World.ownsRow_nil _ _ _ _, fun j h => absurd h (by simp), Below.refl _ _⟩
  case round =>
    obtain ⟨k, rows, hk, rfl, hown, hR, hB⟩ := hrel
    have hrl : rows.length = k := by have := hown.1; omega
    by_cases hlt : (k : Int) < 64
    · go_wp2_with fail
      obtain ⟨wo, rfl⟩ : ∃ wo : World, wo = wr := ⟨_, rfl⟩
      go_loopw [3, 4] (fun row j wr => ∃ m : Nat, m ≤ 64 ∧ j = .int .i64 m ∧ wr.ownsRow wo.heap.size 3 1 row m (List.replicate m (.int .i64 k)) ∧ Below wo.heap.size wo wr) (fun _ j _ => 64 - (intOf j).toNat)
      case atStart => exact ⟨0, by omega, rfl, World.ownsRow_nil _ _ _ _, Below.refl _ _⟩
      case round =>
        obtain ⟨m, hm, rfl, hown2, hB2⟩ := hrel
        by_cases hlt2 : (m : Int) < 64
        · go_wp2_with (at_builtin; refine wpList_append_ints rfl (.tmp 13) (.tmp 15) rfl wo.heap.size u3 m _ rfl (hown2.alloc _) (Nat.le_trans hB2.size (by simp)) _ (.slice (some ⟨wr.heap.size, 0, none⟩) 1 1) [(k : Int)] rfl (ints_of_owns (own_one wr 0 (Nat.zero_le _) _) rfl (fun x hx => (by rw [List.mem_singleton] at hx; omega))) (by simp; omega) ?_; intro v4 w4 hown4 hgrow4)
          have hB4 := (hB2.alloc hB2.size (.cells #[.int .i64 (k : Int)] 3)).grown hgrow4 (Nat.le_trans hB2.size (by simp)) (fun g e => (hown2.lt g e).1)
          have hown5 : w4.ownsRow wo.heap.size 3 1 v4 (m + 1) (List.replicate (m + 1) (.int .i64 k)) := by rw [List.replicate_succ']; exact hown4
          clear hown4 hgrow4
          go_wp2
          go_roundw
          case rel => exact ⟨m + 1, by omega, by go_num, hown5, hB4⟩
          case measure => simp [intOf]; omega
        · obtain rfl : m = 64 := by omega
          have hsh : ∃ o c, u3 = .slice o 64 c := by
            obtain ⟨-, ⟨hv, h0⟩ | ⟨g, cap, arr, hv, -⟩⟩ := hown2
            · simp at h0
            · exact ⟨_, _, hv⟩
          obtain ⟨o3, c3, rfl⟩ := hsh
          have hK := (hown.kept (grownBy_of_below hB2) (by cases hx : u1.ownBlock <;> simp)).alloc (.cells #[.slice o3 64 c3] 22)
          go_wp2_with (at_builtin; refine wpList_append_own _ rfl (.tmp 17) (.tmp 19) 25 rfl w.heap.size 22 i0 (.slice none 0 0) 1 24 Try.underlying25 hi hz hs hb rfl (by decide) u1 k rows rfl hK ⟨wr.heap.size, 0, none⟩ 1 1 [.slice o3 64 c3] rfl rfl (fun j u hj => (by match j, hj with | 0, hj => (simp at hj; subst hj; exact cell_of_row _ _ 0 _ _ _ (heap_alloc_new wr _)))) (fun u hu => (by rw [List.mem_singleton] at hu; subst hu; rfl)) (by unfold maxLen; omega) (by omega) (Nat.le_trans hB.size (Nat.le_trans hB2.size (by simp))) ?_; intro v5 w5 hown5 hgrow5 _)
          have hB5 := ((hB.trans (hB2.mono hB.size)).alloc (Nat.le_trans hB.size hB2.size) (.cells #[.slice o3 64 c3] 22)).grown hgrow5 (Nat.le_trans hB.size (Nat.le_trans hB2.size (by simp))) (fun g e => (hown.lt g e).1)
          have hR1 : RowsAt (wr.alloc (.cells #[.slice o3 64 c3] 22)) (rows ++ [.slice o3 64 c3]) := by
            intro j hj
            by_cases hjk : j < rows.length
            · rw [List.getElem_append_left hjk]
              exact ((hR.out j hjk).kept (grownBy_of_below hB2) (by cases rows[j].ownBlock <;> simp)).alloc _
            · obtain rfl : j = k := by rw [List.length_append] at hj; simp at hj; omega
              rw [List.getElem_append_right (by omega)]
              simp only [hrl, Nat.sub_self, List.getElem_cons_zero]
              exact (own_low hown2).alloc _
          have hR5 : Hid (RowsAt w5 (rows ++ [.slice o3 64 c3])) := hR1.grown hgrow5 (fun j hj => own_types (hR1 j hj) hK)
          clear hgrow5 hR1 hK
          go_wp2
          go_roundw
          case rel => exact ⟨k + 1, rows ++ [.slice o3 64 c3], by omega, by go_num, hown5, hR5, hB5⟩
          case measure => simp [intOf]; omega
    · obtain rfl : k = 64 := by omega
      go_wp2
      go_ret
      exact ⟨_, rfl, rows_tab hown hR.out, hB⟩

end Go.Proofs.Ytcbddplgleeiiaa
