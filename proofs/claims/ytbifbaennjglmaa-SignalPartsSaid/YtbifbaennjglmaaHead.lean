/-
  Contracts of the law's own functions: Example, head.
-/
import Derived.Test.YtbifbaennjglmaaHeadP
namespace Go.Proofs.Ytbifbaennjglmaa
open Go.RowKit

theorem sigs_new (w : World) (o : Array Value) (n : Nat) (l : List Sig) (hn : n = l.length) (h6 : l.length ≤ 6)
    (h : ∀ k (hk : k < l.length), o[k * 3]? = some (.string l[k].name) ∧ o[k * 3 + 1]? = some (.bool l[k].input) ∧ o[k * 3 + 2]? = some (.int .i64 l[k].size) ∧
      l[k].name.size ≤ 9223372036854775807 ∧ -9223372036854775808 ≤ l[k].size ∧ l[k].size ≤ 9223372036854775807) (t : TypeId) :
    Sigs (w.heap.size + 1) (w.alloc (.cells o t)) (.slice (some ⟨w.heap.size, 0, none⟩) n n) l := by
  subst hn
  refine .inr ⟨w.heap.size, 0, l.length, rfl, by omega, Nat.le_refl _, by omega, fun k hk => ?_⟩
  obtain ⟨h1, h2, h3, h4⟩ := h k hk
  rw [Nat.zero_add]
  exact ⟨by rw [World.cell?_alloc_at _ _ _ _ rfl]; exact h1, by rw [World.cell?_alloc_at _ _ _ _ rfl]; exact h2, by rw [World.cell?_alloc_at _ _ _ _ rfl]; exact h3, h4⟩

def ExPost (w : World) (e : Ending) (w' : World) : Prop :=
  e = .returned (.slice (some ⟨w.heap.size, 0, none⟩) 3 3) ∧ Sigs (w.heap.size + 1) w' (.slice (some ⟨w.heap.size, 0, none⟩) 3 3) exL ∧ Below w.heap.size w w' ∧ w.heap.size + 1 ≤ w'.heap.size

set_option maxHeartbeats 400000 in
theorem example_any (w : World) : Calls Try.prog 35 #[] w (ExPost w) := by
  go_enter Try.func35, Try.ntmps35
  go_wp2
  go_ret
  refine ⟨rfl, sigs_new w _ 3 exL rfl (by decide) ?_ _, (Below.refl _ _).alloc (Nat.le_refl _) _, by simp⟩
  intro k hk
  match k, hk with
  | 0, _ => exact ⟨rfl, rfl, rfl, by show (1 : Nat) ≤ _; decide, by show (-9223372036854775808 : Int) ≤ 2; decide, by show (2 : Int) ≤ _; decide⟩
  | 1, _ => exact ⟨rfl, rfl, rfl, by show (1 : Nat) ≤ _; decide, by show (-9223372036854775808 : Int) ≤ 3; decide, by show (3 : Int) ≤ _; decide⟩
  | 2, _ => exact ⟨rfl, rfl, rfl, by show (1 : Nat) ≤ _; decide, by show (-9223372036854775808 : Int) ≤ 2; decide, by show (2 : Int) ≤ _; decide⟩

theorem ints_new (w : World) (a b c : Int) (t : TypeId) (ha : -9223372036854775808 ≤ a ∧ a ≤ 9223372036854775807) (hb : -9223372036854775808 ≤ b ∧ b ≤ 9223372036854775807) (hc : -9223372036854775808 ≤ c ∧ c ≤ 9223372036854775807) :
    IntsAt (w.heap.size + 1) (w.alloc (.cells #[.int .i64 a, .int .i64 b, .int .i64 c] t)) (.slice (some ⟨w.heap.size, 0, none⟩) 3 3) [a, b, c] := by
  refine .inr ⟨w.heap.size, 0, 3, rfl, by omega, by simp, by omega, fun k hk => ?_⟩
  rw [World.cell?_alloc_at _ _ _ _ rfl]
  match k, hk with
  | 0, _ => exact ⟨rfl, ha⟩
  | 1, _ => exact ⟨rfl, hb⟩
  | 2, _ => exact ⟨rfl, hc⟩

theorem ex_t (k : Nat) (hk : k < exT.length) : #[Value.string ⟨#[116, 114, 117, 101]⟩, .bool false, .int .i64 2][k * 3]? = some (.string exT[k].name) ∧ #[Value.string ⟨#[116, 114, 117, 101]⟩, .bool false, .int .i64 2][k * 3 + 1]? = some (.bool exT[k].input) ∧
    #[Value.string ⟨#[116, 114, 117, 101]⟩, .bool false, .int .i64 2][k * 3 + 2]? = some (.int .i64 exT[k].size) ∧ exT[k].name.size ≤ 9223372036854775807 ∧ -9223372036854775808 ≤ exT[k].size ∧ exT[k].size ≤ 9223372036854775807 := by
  match k, hk with
  | 0, _ => exact ⟨rfl, rfl, rfl, by show (4 : Nat) ≤ _; decide, by show (-9223372036854775808 : Int) ≤ 2; decide, by show (2 : Int) ≤ _; decide⟩

set_option maxRecDepth 100000 in
set_option maxHeartbeats 4000000 in
theorem head_any (w : World) : Calls Try.prog 9 #[] w fun e w' => e = .returned (.bool true) ∧ Below w.heap.size w w' := by
  go_enter Try.func9, Try.ntmps9
  go_wp2_with fail
  refine (example_any _).mono ?_
  rintro e w1 ⟨rfl, hS, hB, hz⟩
  go_wp2_with fail
  -- the two calls of Make
  have hA : Below w1.heap.size w1 (w1.alloc (.cells #[.int .i64 1, .int .i64 2, .int .i64 1] 3)) := (Below.refl _ _).alloc (Nat.le_refl _) _
  refine (make_any (w1.heap.size + 1) _ _ exL [1, 2, 1] _ ((hS.below hA (by omega)).mono (by omega)) (ints_new w1 1 2 1 _ (by decide) (by decide) (by decide)) (by simp)).mono ?_
  rintro e w2 ⟨rfl, hb2⟩
  have hB2 : Below w1.heap.size w1 w2 := hA.trans (hb2.mono (by simp))
  have hz2 := hB2.size
  rw [ex_m1, ex_m2]
  clear hA hb2
  go_wp2_with fail
  have hA : Below w2.heap.size w2 (w2.alloc (.cells #[.int .i64 2, .int .i64 0, .int .i64 0] 3)) := (Below.refl _ _).alloc (Nat.le_refl _) _
  have hS2 := (hS.below hB2 (by omega)).mono (B' := w2.heap.size) (by omega)
  refine (make_any (w2.heap.size + 1) _ _ exL [2, 0, 0] _ ((hS2.below hA (by omega)).mono (by omega)) (ints_new w2 2 0 0 _ (by decide) (by decide) (by decide)) (by simp)).mono ?_
  rintro e w3 ⟨rfl, hb3⟩
  have hB3 : Below w2.heap.size w2 w3 := hA.trans (hb3.mono (by simp))
  have hz3 := hB3.size
  rw [ex_m3, ex_m4]
  clear hA hb3
  have hS3 := (hS2.below hB3 (by omega)).mono (B' := w3.heap.size) (by omega)
  have hBw : Below w.heap.size w w3 := (hB.trans (hB2.mono (by have := hB.size; omega))).trans (hB3.mono (by have := hB.size; omega))
  clear hS hS2 hB hB2 hB3
  have f1 := ex_v1
  have f2 := ex_v2
  have f3 := ex_v3
  have f4 := ex_c1
  have f5 := ex_c2
  have f6 := ex_c3
  have f7 := ex_p1
  have f8 := ex_p2
  have f9 := ex_j1
  have f10 := ex_w1
  have f11 := ex_w2
  have f12 := ex_f1
  have f13 := ex_f2
  have f14 := ex_n1
  have f15 := ex_n2
  have f16 := ex_n3
  have f17 := ex_n4
  go_wp2_with fail
  refine (valid_any _ _ exL _ hS3 (Nat.le_refl _)).mono ?_
  rintro e w4 ⟨rfl, hb⟩
  have hS4 := (hS3.below hb (Nat.le_refl _)).mono hb.size
  have hBw := hBw.trans (hb.mono hBw.size)
  clear hS3 hb
  go_wp2_with fail
  refine (letters_any _ _ exL _ hS4 (Nat.le_refl _)).mono ?_
  rintro e w5 ⟨rfl, hb⟩
  have hS5 := (hS4.below hb (Nat.le_refl _)).mono hb.size
  have hBw := hBw.trans (hb.mono hBw.size)
  clear hS4 hb
  go_wp2_with fail
  refine (inputs_any _ _ exL _ hS5 (Nat.le_refl _)).mono ?_
  rintro e w6 ⟨rfl, hb⟩
  have hS6 := (hS5.below hb (Nat.le_refl _)).mono hb.size
  have hBw := hBw.trans (hb.mono hBw.size)
  clear hS5 hb
  go_wp2_with fail
  refine (outputs_any _ _ exL _ hS6 (Nat.le_refl _)).mono ?_
  rintro e w7 ⟨rfl, hb⟩
  have hS7 := (hS6.below hb (Nat.le_refl _)).mono hb.size
  have hBw := hBw.trans (hb.mono hBw.size)
  clear hS6 hb
  go_wp2_with fail
  refine (in_any _ _ exL 11 _ hS7 (Nat.le_refl _)).mono ?_
  rintro e w8 ⟨rfl, hb⟩
  have hS8 := (hS7.below hb (Nat.le_refl _)).mono hb.size
  have hBw := hBw.trans (hb.mono hBw.size)
  clear hS7 hb
  go_wp2_with fail
  refine (out_any _ _ exL 11 _ hS8 (Nat.le_refl _)).mono ?_
  rintro e w9 ⟨rfl, hb⟩
  have hS9 := (hS8.below hb (Nat.le_refl _)).mono hb.size
  have hBw := hBw.trans (hb.mono hBw.size)
  clear hS8 hb
  go_wp2_with fail
  refine (join_any _ _ exL 2 1 _ hS9 (Nat.le_refl _)).mono ?_
  rintro e w10 ⟨rfl, hb⟩
  have hS10 := (hS9.below hb (Nat.le_refl _)).mono hb.size
  have hBw := hBw.trans (hb.mono hBw.size)
  clear hS9 hb
  go_wp2_with fail
  refine (value_any _ _ exL 8 2 _ hS10 (Nat.le_refl _)).mono ?_
  rintro e w11 ⟨rfl, hb⟩
  have hS11 := (hS10.below hb (Nat.le_refl _)).mono hb.size
  have hBw := hBw.trans (hb.mono hBw.size)
  clear hS10 hb
  go_wp2_with fail
  refine (value_any _ _ exL 12 0 _ hS11 (Nat.le_refl _)).mono ?_
  rintro e w12 ⟨rfl, hb⟩
  have hS12 := (hS11.below hb (Nat.le_refl _)).mono hb.size
  have hBw := hBw.trans (hb.mono hBw.size)
  clear hS11 hb
  go_wp2_with fail
  refine (find_any _ _ exL ⟨#[115]⟩ _ hS12 (Nat.le_refl _)).mono ?_
  rintro e w13 ⟨rfl, hb⟩
  have hS13 := (hS12.below hb (Nat.le_refl _)).mono hb.size
  have hBw := hBw.trans (hb.mono hBw.size)
  clear hS12 hb
  go_wp2_with fail
  refine (find_any _ _ exL ⟨#[113]⟩ _ hS13 (Nat.le_refl _)).mono ?_
  rintro e w14 ⟨rfl, hb⟩
  have hS14 := (hS13.below hb (Nat.le_refl _)).mono hb.size
  have hBw := hBw.trans (hb.mono hBw.size)
  clear hS13 hb
  go_wp2_with fail
  refine (valid_any _ _ [] _ (.inl ⟨_, _, rfl, rfl⟩ : Sigs _ _ _ []) (Nat.le_refl _)).mono ?_
  rintro e w15 ⟨rfl, hb⟩
  have hS15 := (hS14.below hb (Nat.le_refl _)).mono hb.size
  have hBw := hBw.trans (hb.mono hBw.size)
  clear hS14 hb
  go_wp2_with fail
  have hA : Below w15.heap.size w15 (w15.alloc (.cells #[.string ⟨#[116, 114, 117, 101]⟩, .bool false, .int .i64 2] 36)) := (Below.refl _ _).alloc (Nat.le_refl _) _
  have hT := sigs_new w15 #[.string ⟨#[116, 114, 117, 101]⟩, .bool false, .int .i64 2] 1 exT rfl (by decide) ex_t 36
  refine (valid_any _ _ exT _ hT (by simp)).mono ?_
  rintro e w16 ⟨rfl, hb⟩
  have hBw := hBw.trans ((hA.trans (hb.mono (by simp))).mono hBw.size)
  clear hA hb hT
  go_wp2_with (go_at_call 15; refine (name_any _ (by decide) _).mono ?_; rintro e w' ⟨rfl, rfl⟩)
  go_ret
  exact ⟨rfl, hBw⟩

end Go.Proofs.Ytbifbaennjglmaa
