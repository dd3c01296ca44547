/-
  Contracts that the formula laws stand on, part Gf.
-/
import Derived.Sort.Grow
import Derived.Shelf.SlSortCmp.NoneTotal
import Derived.Shelf.SlIter.Nil
import Derived.Shelf.SortM.Plain
import Derived.Shelf.SortM.SortNone
import Derived.Test.YtbnnjbfbifihaaaGreatDoorGb

/-
  The comparison of formulas once more: what was there stays, and no draw is taken back.
-/
namespace Go.Proofs.YtbnnjbfbifihaaaGreatDoor
open Go.RowKit

/-- what was below B is as it was, and the draws go on -/
structure BelD (B : Nat) (w w' : World) : Prop extends Below B w w' where
  dr : w.drawn ≤ w'.drawn
instance {B : Nat} {w w' : World} : CoeOut (BelD B w w') (Below B w w') := ⟨BelD.toBelow⟩
theorem BelD.refl (B : Nat) (w : World) : BelD B w w := ⟨Below.refl B w, Nat.le_refl _⟩
theorem BelD.trans {B : Nat} {a b c : World} (h : BelD B a b) (k : BelD B b c) : BelD B a c := ⟨h.toBelow.trans k.toBelow, Nat.le_trans h.dr k.dr⟩
theorem BelD.mono {B B' : Nat} {w w' : World} (h : BelD B w w') (hB : B' ≤ B) : BelD B' w w' := ⟨h.toBelow.mono hB, h.dr⟩
theorem BelD.drew {B : Nat} {a w : World} (h : BelD B a w) : BelD B a w.drew := ⟨h.toBelow.drew, Nat.le_trans h.dr (Nat.le_succ _)⟩
theorem BelD.alloc {B : Nat} {a w : World} (h : BelD B a w) (hB : B ≤ w.heap.size) (o : Obj) : BelD B a (w.alloc o) := ⟨h.toBelow.alloc hB o, h.dr⟩
theorem belD_box (w : World) (o : Obj) : BelD w.heap.size w (w.alloc o) := ⟨below_box w o, Nat.le_refl _⟩
theorem belD_drewN {B : Nat} {a w : World} (h : BelD B a w) (n : Nat) : BelD B a (w.drewN n) := ⟨below_drewN h.toBelow n, Nat.le_trans h.dr (Nat.le_add_right _ _)⟩
/-- the world that came out, written out -/
theorem BelD.grown {w w' : World} (h : BelD w.heap.size w w') : ∃ q os', w' = Sort.grow (w.drewN q) os' := by
  refine ⟨w'.drawn - w.drawn, w'.heap.extract w.heap.size w'.heap.size, ?_⟩
  obtain ⟨⟨h1, h2, h3, h4, h5⟩, h6⟩ := h
  have hh : w'.heap = w.heap ++ w'.heap.extract w.heap.size w'.heap.size := by
    apply Array.ext_getElem?
    intro i
    rw [Array.getElem?_append]
    split
    · next hi => exact h5 i hi
    · next hi =>
      rw [Array.getElem?_extract]
      split
      · next hj => congr 1; omega
      · next hj => rw [Array.getElem?_eq_none]; omega
  cases w'; cases w
  simp only [Sort.grow, World.drewN] at *
  subst h1 h2 h3
  congr 1
  omega
theorem fm2_open_d (w : World) (a1 a2 a3 a4 a5 b1 b2 b3 b4 b5 : Value) : ∃ W0, Hid ((w.alloc (.cells #[a1, a2, a3, a4, a5] 24)).alloc (.cells #[b1, b2, b3, b4, b5] 24) = W0) ∧ BelD w.heap.size w W0 ∧
    Hid (Cells5 W0 w.heap.size 0 a1 a2 a3 a4 a5) ∧ Hid (Cells5 W0 (w.heap.size + 1) 0 b1 b2 b3 b4 b5) ∧ w.heap.size + 1 < W0.heap.size := by
  obtain ⟨W0, h1, h2, h3, h4, h5⟩ := fm2_open w a1 a2 a3 a4 a5 b1 b2 b3 b4 b5
  exact ⟨W0, h1, ⟨h2, by rw [← h1.out]; exact Nat.le_refl _⟩, h3, h4, h5⟩
theorem two_allocs_d (w : World) (a b : Obj) : ∃ W0, Hid ((w.alloc a).alloc b = W0) ∧ BelD w.heap.size w W0 := by
  obtain ⟨W0, h1, h2⟩ := two_allocs w a b
  exact ⟨W0, h1, h2, by rw [← h1.out]; exact Nat.le_refl _⟩

set_option maxRecDepth 100000 in
set_option maxHeartbeats 4000000 in
theorem heads_d (f g : Fm) (B : Nat) (u v : Value) (w : World) (hu : FAt B w u f) (hv : FAt B w v g) :
    Calls Tryz.prog 58 #[u, v] w fun e w' => e = .returned (.int .i64 (cmpHead f g)) ∧ BelD w.heap.size w w' := by
  obtain ⟨o, c, rfl, -, hAf⟩ := hu.open
  obtain ⟨o', c', rfl, -, hAg⟩ := hv.open
  have hlf := hAf.len
  have hlg := hAg.len
  obtain ⟨W0, hW0, hB0, hcf, hcg, hlt⟩ := fm2_open_d w (.int .i64 f.op) (.string f.name) (.int .i64 f.val) (.int .i64 f.bound) (.slice o f.args.length c) (.int .i64 g.op) (.string g.name) (.int .i64 g.val) (.int .i64 g.bound) (.slice o' g.args.length c')
  have keep : ∀ {X : World}, BelD W0.heap.size W0 X → X.cell? ⟨w.heap.size, 0, none⟩ = some (.int .i64 f.op) ∧ X.cell? ⟨w.heap.size, 1, none⟩ = some (.string f.name) ∧ X.cell? ⟨w.heap.size, 2, none⟩ = some (.int .i64 f.val) ∧ X.cell? ⟨w.heap.size, 3, none⟩ = some (.int .i64 f.bound) ∧ X.cell? ⟨w.heap.size, 4, none⟩ = some (.slice o f.args.length c) ∧ X.cell? ⟨w.heap.size + 1, 0, none⟩ = some (.int .i64 g.op) ∧ X.cell? ⟨w.heap.size + 1, 1, none⟩ = some (.string g.name) ∧ X.cell? ⟨w.heap.size + 1, 2, none⟩ = some (.int .i64 g.val) ∧ X.cell? ⟨w.heap.size + 1, 3, none⟩ = some (.int .i64 g.bound) ∧ X.cell? ⟨w.heap.size + 1, 4, none⟩ = some (.slice o' g.args.length c') ∧ BelD W0.heap.size W0 X := fun h => by
    obtain ⟨d0, d1, d2, d3, d4⟩ := hcf.out.later h.toBelow (by omega)
    obtain ⟨c0, c1, c2, c3, c4⟩ := hcg.out.later h.toBelow hlt
    rw [Nat.zero_add] at d1 d2 d3 d4 c1 c2 c3 c4
    exact ⟨d0, d1, d2, d3, d4, c0, c1, c2, c3, c4, h⟩
  have hh := hidi (orL_head f g)
  obtain ⟨y1, x1⟩ : ∃ x, Hid (cmpI f.op g.op = x) := ⟨_, rfl⟩
  obtain ⟨y2, x2⟩ : ∃ x, Hid (cmpN f.name g.name = x) := ⟨_, rfl⟩
  obtain ⟨y3, x3⟩ : ∃ x, Hid (cmpI f.val g.val = x) := ⟨_, rfl⟩
  obtain ⟨y4, x4⟩ : ∃ x, Hid (cmpI f.bound g.bound = x) := ⟨_, rfl⟩
  obtain ⟨y5, x5⟩ : ∃ x, Hid (cmpI f.args.length g.args.length = x) := ⟨_, rfl⟩
  rw [x1.out, x2.out, x3.out, x4.out, x5.out] at hh
  go_enter Tryz.func58, Tryz.ntmps58
  go_wp2_with fail
  rw [hW0.out]
  have hst := keep (BelD.refl _ W0).drew
  go_region_held3 (fun X => X.cell? ⟨w.heap.size, 0, none⟩ = some (.int .i64 f.op) ∧ X.cell? ⟨w.heap.size, 1, none⟩ = some (.string f.name) ∧ X.cell? ⟨w.heap.size, 2, none⟩ = some (.int .i64 f.val) ∧ X.cell? ⟨w.heap.size, 3, none⟩ = some (.int .i64 f.bound) ∧ X.cell? ⟨w.heap.size, 4, none⟩ = some (.slice o f.args.length c) ∧ X.cell? ⟨w.heap.size + 1, 0, none⟩ = some (.int .i64 g.op) ∧ X.cell? ⟨w.heap.size + 1, 1, none⟩ = some (.string g.name) ∧ X.cell? ⟨w.heap.size + 1, 2, none⟩ = some (.int .i64 g.val) ∧ X.cell? ⟨w.heap.size + 1, 3, none⟩ = some (.int .i64 g.bound) ∧ X.cell? ⟨w.heap.size + 1, 4, none⟩ = some (.slice o' g.args.length c') ∧ BelD W0.heap.size W0 X) (first | exact hst | assumption | exact keep q6 | exact keep (((BelD.refl _ W0).alloc (Nat.le_refl _) _).drew)) (first
    | (obtain ⟨-, -, -, -, -, -, -, -, -, -, q9⟩ : _ ∧ _ ∧ _ ∧ _ ∧ _ ∧ _ ∧ _ ∧ _ ∧ _ ∧ _ ∧ BelD W0.heap.size W0 _ := (by assumption); go_at_call 86; refine (cmp_str _ _ _).mono ?_; rintro e w1 ⟨rfl, rfl⟩; rw [x2.out]; have q6 := q9)
    | (obtain ⟨-, -, -, -, -, -, -, -, -, -, q9⟩ : _ ∧ _ ∧ _ ∧ _ ∧ _ ∧ _ ∧ _ ∧ _ ∧ _ ∧ _ ∧ BelD W0.heap.size W0 _ := (by assumption); go_at_call 85; (with_reducible refine (cmp_int f.op g.op _).mono ?_); rintro e w1 ⟨rfl, rfl⟩; rw [x1.out]; have q6 := q9)
    | (obtain ⟨-, -, -, -, -, -, -, -, -, -, q9⟩ : _ ∧ _ ∧ _ ∧ _ ∧ _ ∧ _ ∧ _ ∧ _ ∧ _ ∧ _ ∧ BelD W0.heap.size W0 _ := (by assumption); go_at_call 85; (with_reducible refine (cmp_int f.val g.val _).mono ?_); rintro e w1 ⟨rfl, rfl⟩; rw [x3.out]; have q6 := q9)
    | (obtain ⟨-, -, -, -, -, -, -, -, -, -, q9⟩ : _ ∧ _ ∧ _ ∧ _ ∧ _ ∧ _ ∧ _ ∧ _ ∧ _ ∧ _ ∧ BelD W0.heap.size W0 _ := (by assumption); go_at_call 85; (with_reducible refine (cmp_int f.bound g.bound _).mono ?_); rintro e w1 ⟨rfl, rfl⟩; rw [x4.out]; have q6 := q9)
    | (obtain ⟨-, -, -, -, -, -, -, -, -, -, q9⟩ : _ ∧ _ ∧ _ ∧ _ ∧ _ ∧ _ ∧ _ ∧ _ ∧ _ ∧ _ ∧ BelD W0.heap.size W0 _ := (by assumption); go_at_call 85; (with_reducible refine (cmp_int (f.args.length : Int) (g.args.length : Int) _).mono ?_); rintro e w1 ⟨rfl, rfl⟩; rw [x5.out]; have q6 := q9)
    | (obtain ⟨-, -, -, -, -, -, -, -, -, -, q9⟩ : _ ∧ _ ∧ _ ∧ _ ∧ _ ∧ _ ∧ _ ∧ _ ∧ _ ∧ _ ∧ BelD W0.heap.size W0 _ := (by assumption); go_at_call 84; refine (cmp_or _ 5 [y1, y2, y3, y4, y5] _ (by simp) (five_cells _ _ _ _ _ _)).mono ?_; rintro e w1 ⟨rfl, rfl⟩; rw [hh.out]; have q6 := q9))
  all_goals go_wp2
  all_goals go_ret
  exact ⟨rfl, hB0.trans (q6.mono hB0.size)⟩


set_option maxRecDepth 100000 in
set_option maxHeartbeats 2000000 in
theorem cmpfunc_d (l : List Fm) (H : ∀ x ∈ l, ∀ (y : Fm) (B : Nat) (u v : Value) (w : World), FAt B w u x → FAt B w v y → B ≤ w.heap.size →
      Calls Tryz.prog 19 #[u, v] w fun e w' => e = .returned (.int .i64 (cmpF x y)) ∧ BelD w.heap.size w w')
    (m : List Fm) (B : Nat) (u v : Value) (w : World) (hu : FArgs B w u l) (hv : FArgs B w v m) (hBw : B ≤ w.heap.size) :
    Calls Tryz.prog 59 #[u, v, .func (.func 19) #[] #[]] w fun e w' => e = .returned (.int .i64 (cmpL l m)) ∧ BelD w.heap.size w w' := by
  have hu' := hu.mono hBw
  have hv' := hv.mono hBw
  obtain ⟨o, c, rfl⟩ := hu.shape
  obtain ⟨o', c', rfl⟩ := hv.shape
  have hl1 := hu.len
  have hl2 := hv.len
  go_enter Tryz.func59, Tryz.ntmps59
  go_wp2
  go_loopw [13] (fun i wr => ∃ k : Nat, k ≤ l.length ∧ k ≤ m.length ∧ i = .int .i64 k ∧ Hid (cmpL l m = cmpL (l.drop k) (m.drop k)) ∧ BelD w.heap.size w wr) (fun i _ => l.length - (intOf i).toNat)
  case atStart => exact ⟨0, Nat.zero_le _, Nat.zero_le _, rfl, rfl, BelD.refl _ _⟩
  case round =>
    obtain ⟨k, hk, hk2, rfl, hD, hB⟩ := hrel
    by_cases hlt : k < l.length
    · obtain ⟨b, off, rfl, hb, hat⟩ := hu'.at (by omega)
      obtain ⟨sl, hc5, hF⟩ := hat k hlt
      obtain ⟨o1, c1, rfl⟩ := hF.slot
      obtain ⟨e0, e1, e2, e3, e4⟩ := hc5.below hB.toBelow hb
      by_cases hlt2 : k < m.length
      · obtain ⟨b', off', rfl, hb', hat'⟩ := hv'.at (by omega)
        obtain ⟨sl', hc5', hG⟩ := hat' k hlt2
        obtain ⟨o2, c2, rfl⟩ := hG.slot
        obtain ⟨g0, g1, g2, g3, g4⟩ := hc5'.below hB.toBelow hb'
        have hS := hidi (cmpL_drop hlt hlt2)
        obtain ⟨j0, j1, j2, j3, j4⟩ := hc5'.below (hB.toBelow.alloc hB.size (.cells #[.int .i64 l[k].op, .string l[k].name, .int .i64 l[k].val, .int .i64 l[k].bound, .slice o1 l[k].args.length c1] 24)) hb'
        have hmem := List.getElem_mem hlt
        generalize l[k] = x at *
        generalize m[k] = y at *
        obtain ⟨z, hz⟩ : ∃ z, Hid (cmpF x y = z) := ⟨_, rfl⟩
        rw [hz.out] at hS
        obtain ⟨W1, hW1, hB1⟩ := two_allocs_d wr (.cells #[.int .i64 x.op, .string x.name, .int .i64 x.val, .int .i64 x.bound, .slice o1 x.args.length c1] 24) (.cells #[.int .i64 y.op, .string y.name, .int .i64 y.val, .int .i64 y.bound, .slice o2 y.args.length c2] 24)
        have hB2 := hB.trans (hB1.mono hB.size)
        by_cases h0 : z = 0
        · subst h0
          go_wp2_with (go_at_call 19; rw [hW1.out]; refine (H x hmem y w.heap.size _ _ _ (hF.kept hB2.toBelow (Nat.le_refl _)) (hG.kept hB2.toBelow (Nat.le_refl _)) hB2.size).mono ?_; rintro e w1 ⟨rfl, hb1⟩; rw [hz.out]; have hB3 := hB2.trans (hb1.mono hB2.size); clear hb1)
          go_roundw
          case rel => exact ⟨k + 1, by omega, by omega, by go_num, by unfold Hid; rw [hD.out, hS.out, orI_zero rfl], hB3⟩
          case measure => simp [intOf]; omega
        · have h1 : (z == 0) = false := by simpa using h0
          have h2 : (z != 0) = true := by simp [bne, h1]
          have hR : Hid (cmpL l m = z) := by unfold Hid; rw [hD.out, hS.out, orI_not h0]
          clear h0
          go_wp2_with (go_at_call 19; rw [hW1.out]; refine (H x hmem y w.heap.size _ _ _ (hF.kept hB2.toBelow (Nat.le_refl _)) (hG.kept hB2.toBelow (Nat.le_refl _)) hB2.size).mono ?_; rintro e w1 ⟨rfl, hb1⟩; rw [hz.out]; have hB3 := hB2.trans (hb1.mono hB2.size); clear hb1)
          go_ret
          exact ⟨ret_int hR.out.symm, hB3⟩
      · have hR : Hid (cmpL l m = 1) := by
          unfold Hid; rw [hD.out, List.drop_eq_getElem_cons hlt, List.drop_of_length_le (show m.length ≤ k by omega), cmpL]
        go_wp2
        go_ret
        exact ⟨ret_int hR.out.symm, hB.alloc hB.size _⟩
    · obtain rfl : k = l.length := by omega
      by_cases hlt2 : l.length < m.length
      · have hR : Hid (cmpL l m = -1) := by
          unfold Hid; rw [hD.out, List.drop_of_length_le (Nat.le_refl l.length), List.drop_eq_getElem_cons hlt2, cmpL]
        go_wp2
        go_ret
        exact ⟨ret_int hR.out.symm, hB⟩
      · have hR : Hid (cmpL l m = 0) := by
          unfold Hid; rw [hD.out, List.drop_of_length_le (Nat.le_refl l.length), List.drop_of_length_le (show m.length ≤ l.length by omega), cmpL]
        go_wp2
        go_ret
        exact ⟨ret_int hR.out.symm, hB⟩

set_option maxRecDepth 100000 in
set_option maxHeartbeats 2000000 in
theorem compare_d (f : Fm) : ∀ (g : Fm) (B : Nat) (u v : Value) (w : World), FAt B w u f → FAt B w v g → B ≤ w.heap.size →
    Calls Tryz.prog 19 #[u, v] w fun e w' => e = .returned (.int .i64 (cmpF f g)) ∧ BelD w.heap.size w w' := by
  induction f using Fm.ind with
  | h f ih =>
    intro g B u v w hu hv hBw
    have hu' := hu.mono hBw
    have hv' := hv.mono hBw
    obtain ⟨o, c, rfl, -, hAf⟩ := hu'.open
    obtain ⟨o', c', rfl, -, hAg⟩ := hv'.open
    obtain ⟨W0, hW0, hB0, hcf, hcg, hlt⟩ := fm2_open_d w (.int .i64 f.op) (.string f.name) (.int .i64 f.val) (.int .i64 f.bound) (.slice o f.args.length c) (.int .i64 g.op) (.string g.name) (.int .i64 g.val) (.int .i64 g.bound) (.slice o' g.args.length c')
    obtain ⟨d0, d1, d2, d3, d4⟩ := hcf.out
    obtain ⟨c0, c1, c2, c3, c4⟩ := hcg.out
    rw [Nat.zero_add] at d1 d2 d3 d4 c1 c2 c3 c4
    have hE := hidi (cmpF_eq f g)
    obtain ⟨z, hz⟩ : ∃ z, Hid (cmpHead f g = z) := ⟨_, rfl⟩
    rw [hz.out] at hE
    by_cases h0 : z = 0
    · subst h0
      go_enter Tryz.func19, Tryz.ntmps19
      go_wp2_with fail
      rw [hW0.out]
      go_wp2_with (first
        | (go_at_call 58; refine (heads_d f g w.heap.size _ _ _ (hu'.kept hB0.toBelow (Nat.le_refl _)) (hv'.kept hB0.toBelow (Nat.le_refl _))).mono ?_; rintro e w1 ⟨rfl, hb1⟩; rw [hz.out]; have hB := hB0.trans (hb1.mono hB0.size); clear d0 d1 d2 d3 d4 c0 c1 c2 c3 c4; obtain ⟨d0, d1, d2, d3, d4⟩ := hcf.out.later hb1.toBelow (by omega); obtain ⟨c0, c1, c2, c3, c4⟩ := hcg.out.later hb1.toBelow hlt; rw [Nat.zero_add] at d1 d2 d3 d4 c1 c2 c3 c4; clear hb1)
        | (go_at_call 59; refine (cmpfunc_d f.args ih g.args w.heap.size _ _ _ (hAf.kept hB.toBelow (Nat.le_refl _)) (hAg.kept hB.toBelow (Nat.le_refl _)) hB.size).mono ?_; rintro e w2 ⟨rfl, hb1⟩; have hB3 := hB.trans (hb1.mono hB.size); clear hb1))
      go_ret
      exact ⟨ret_int (by rw [hE.out, orI_zero rfl]), hB3⟩
    · have h1 : (z == 0) = false := by simpa using h0
      have h2 : (z != 0) = true := by simp [bne, h1]
      have hR : Hid (cmpF f g = z) := by unfold Hid; rw [hE.out, orI_not h0]
      clear h0
      go_enter Tryz.func19, Tryz.ntmps19
      go_wp2_with fail
      rw [hW0.out]
      go_wp2_with (go_at_call 58; refine (heads_d f g w.heap.size _ _ _ (hu'.kept hB0.toBelow (Nat.le_refl _)) (hv'.kept hB0.toBelow (Nat.le_refl _))).mono ?_; rintro e w1 ⟨rfl, hb1⟩; rw [hz.out]; have hB := hB0.trans (hb1.mono hB0.size); clear hb1)
      go_ret
      exact ⟨ret_int hR.out.symm, hB⟩

end Go.Proofs.YtbnnjbfbifihaaaGreatDoor

/-
  The library's contracts of slices.SortFunc at formulas and of slices.Sorted(maps.Keys(..)), at this program's numbers.
-/
namespace Go.Proofs
open Go.Shelf
def Tryz.sortFm_ren : Go.Shelf.Ren := ⟨fun | 6 => 129 | 15 => 109 | 14 => 140 | 28 => 124 | 29 => 125 | 20 => 143 | 21 => 144 | 22 => 145 | 23 => 146 | 24 => 147 | 25 => 148 | 26 => 149 | 27 => 150 | 46 => 151 | 47 => 136 | 48 => 137 | 49 => 152 | 50 => 153 | 57 => 154 | n => n, fun | 22 => 22 | 24 => 24 | 25 => 30 | 3 => 3 | 39 => 104 | 0 => 0 | 53 => 119 | 55 => 121 | 4 => 4 | 46 => 111 | 45 => 110 | 50 => 116 | 5 => 5 | 9 => 9 | 66 => 127 | 70 => 131 | 76 => 135 | 77 => 73 | n => n, fun | n => n⟩
theorem Tryz.sortFm : Go.Proofs.SlLaysF0.n6 Tryz.prog Tryz.sortFm_ren := {
  mixed := by kernel_rfl
  f6 := ⟨Tryz.f129.name, by decide, Tryz.func129.trans (congrArg some (by kernel_rfl))⟩
  f14 := ⟨Tryz.f140.name, by decide, Tryz.func140.trans (congrArg some (by kernel_rfl))⟩
  f15 := Tryz.func109.trans (congrArg some (by kernel_rfl))
  f20 := ⟨Tryz.f143.name, by decide, Tryz.func143.trans (congrArg some (by kernel_rfl))⟩
  f21 := ⟨Tryz.f144.name, by decide, Tryz.func144.trans (congrArg some (by kernel_rfl))⟩
  f22 := ⟨Tryz.f145.name, by decide, Tryz.func145.trans (congrArg some (by kernel_rfl))⟩
  f23 := ⟨Tryz.f146.name, by decide, Tryz.func146.trans (congrArg some (by kernel_rfl))⟩
  f24 := ⟨Tryz.f147.name, by decide, Tryz.func147.trans (congrArg some (by kernel_rfl))⟩
  f25 := ⟨Tryz.f148.name, by decide, Tryz.func148.trans (congrArg some (by kernel_rfl))⟩
  f26 := ⟨Tryz.f149.name, by decide, Tryz.func149.trans (congrArg some (by kernel_rfl))⟩
  f27 := ⟨Tryz.f150.name, by decide, Tryz.func150.trans (congrArg some (by kernel_rfl))⟩
  f28 := Tryz.func124.trans (congrArg some (by kernel_rfl))
  f29 := Tryz.func125.trans (congrArg some (by kernel_rfl))
  f46 := ⟨Tryz.f151.name, by decide, Tryz.func151.trans (congrArg some (by kernel_rfl))⟩
  f47 := Tryz.func136.trans (congrArg some (by kernel_rfl))
  f48 := Tryz.func137.trans (congrArg some (by kernel_rfl))
  f49 := ⟨Tryz.f152.name, by decide, Tryz.func152.trans (congrArg some (by kernel_rfl))⟩
  f50 := ⟨Tryz.f153.name, by decide, Tryz.func153.trans (congrArg some (by kernel_rfl))⟩
  f57 := ⟨Tryz.f154.name, by decide, Tryz.func154.trans (congrArg some (by kernel_rfl))⟩
  t0 := Tryz.underlying0
  a0 := Tryz.isAgg0
  z0 := Tryz.sizeOf0
  v0 := Tryz.zeroValue0
  t3 := Tryz.underlying3
  a3 := Tryz.isAgg3
  z3 := Tryz.sizeOf3
  v3 := Tryz.zeroValue3
  t4 := Tryz.underlying4
  a4 := Tryz.isAgg4
  z4 := Tryz.sizeOf4
  v4 := Tryz.zeroValue4
  t5 := Tryz.underlying5
  a5 := Tryz.isAgg5
  z5 := Tryz.sizeOf5
  v5 := Tryz.zeroValue5
  t9 := Tryz.underlying9
  a9 := Tryz.isAgg9
  z9 := Tryz.sizeOf9
  v9 := Tryz.zeroValue9
  t22 := Tryz.underlying22
  a22 := Tryz.isAgg22
  z22 := Tryz.sizeOf22
  v22 := Tryz.zeroValue22
  t25 := Tryz.underlying30
  a25 := Tryz.isAgg30
  z25 := Tryz.sizeOf30
  v25 := Tryz.zeroValue30
  t39 := Tryz.underlying104
  a39 := Tryz.isAgg104
  z39 := Tryz.sizeOf104
  v39 := Tryz.zeroValue104
  t45 := Tryz.underlying110
  a45 := Tryz.isAgg110
  z45 := Tryz.sizeOf110
  v45 := Tryz.zeroValue110
  t46 := Tryz.underlying111
  a46 := Tryz.isAgg111
  z46 := Tryz.sizeOf111
  v46 := Tryz.zeroValue111
  t50 := Tryz.underlying116
  a50 := Tryz.isAgg116
  z50 := Tryz.sizeOf116
  v50 := Tryz.zeroValue116
  t53 := Tryz.underlying119
  a53 := Tryz.isAgg119
  z53 := Tryz.sizeOf119
  v53 := Tryz.zeroValue119
  t55 := Tryz.underlying121
  a55 := Tryz.isAgg121
  z55 := Tryz.sizeOf121
  v55 := Tryz.zeroValue121
  t66 := Tryz.underlying127
  a66 := Tryz.isAgg127
  z66 := Tryz.sizeOf127
  v66 := Tryz.zeroValue127
  t70 := Tryz.underlying131
  a70 := Tryz.isAgg131
  z70 := Tryz.sizeOf131
  v70 := Tryz.zeroValue131
  t76 := Tryz.underlying135
  a76 := Tryz.isAgg135
  z76 := Tryz.sizeOf135
  v76 := Tryz.zeroValue135
  t77 := Tryz.underlying73
  a77 := Tryz.isAgg73
  z77 := Tryz.sizeOf73
  v77 := Tryz.zeroValue73 }
def Tryz.keysA_ren : Go.Shelf.Ren := ⟨fun | 7 => 63 | 10 => 89 | n => n, fun | 23 => 63 | 26 => 9 | 3 => 4 | 28 => 66 | 0 => 0 | 27 => 65 | 33 => 79 | 4 => 4 | n => n, fun | n => n⟩
theorem Tryz.keysA : Go.Proofs.SlLaysZ.n7 Tryz.prog Tryz.keysA_ren := {
  mixed := by kernel_rfl
  f7 := ⟨Tryz.f63.name, by decide, Tryz.func63.trans (congrArg some (by kernel_rfl))⟩
  f10 := ⟨Tryz.f89.name, by decide, Tryz.func89.trans (congrArg some (by kernel_rfl))⟩
  t0 := Tryz.underlying0
  a0 := Tryz.isAgg0
  z0 := Tryz.sizeOf0
  v0 := Tryz.zeroValue0
  t4 := Tryz.underlying4
  a4 := Tryz.isAgg4
  z4 := Tryz.sizeOf4
  v4 := Tryz.zeroValue4
  t23 := Tryz.underlying63
  a23 := Tryz.isAgg63
  z23 := Tryz.sizeOf63
  v23 := Tryz.zeroValue63
  t26 := Tryz.underlying9
  a26 := Tryz.isAgg9
  z26 := Tryz.sizeOf9
  v26 := Tryz.zeroValue9
  t27 := Tryz.underlying65
  a27 := Tryz.isAgg65
  z27 := Tryz.sizeOf65
  v27 := Tryz.zeroValue65
  t28 := Tryz.underlying66
  a28 := Tryz.isAgg66
  z28 := Tryz.sizeOf66
  v28 := Tryz.zeroValue66
  t33 := Tryz.underlying79
  a33 := Tryz.isAgg79
  z33 := Tryz.sizeOf79
  v33 := Tryz.zeroValue79 }
def Tryz.sortedA_ren : Go.Shelf.Ren := ⟨fun | 6 => 62 | 8 => 87 | 9 => 88 | 11 => 107 | 13 => 109 | 12 => 108 | 23 => 124 | 24 => 125 | 14 => 115 | 15 => 116 | 16 => 117 | 17 => 118 | 18 => 119 | 19 => 120 | 20 => 121 | 21 => 122 | 22 => 123 | 25 => 135 | 26 => 136 | 27 => 137 | 28 => 138 | 29 => 139 | 30 => 106 | 31 => 142 | n => n, fun | 26 => 9 | 28 => 66 | 24 => 32 | 0 => 0 | 3 => 3 | 37 => 104 | 48 => 119 | 50 => 121 | 4 => 4 | 40 => 111 | 39 => 110 | 45 => 116 | 5 => 5 | 9 => 9 | 51 => 127 | 55 => 131 | 57 => 135 | 58 => 73 | 33 => 79 | n => n, fun | n => n⟩
theorem Tryz.sortedA : Go.Proofs.SlLaysZ.n6 Tryz.prog Tryz.sortedA_ren := {
  mixed := by kernel_rfl
  f6 := ⟨Tryz.f62.name, by decide, Tryz.func62.trans (congrArg some (by kernel_rfl))⟩
  f8 := ⟨Tryz.f87.name, by decide, Tryz.func87.trans (congrArg some (by kernel_rfl))⟩
  f11 := ⟨Tryz.f107.name, by decide, Tryz.func107.trans (congrArg some (by kernel_rfl))⟩
  t0 := Tryz.underlying0
  a0 := Tryz.isAgg0
  z0 := Tryz.sizeOf0
  v0 := Tryz.zeroValue0
  t24 := Tryz.underlying32
  a24 := Tryz.isAgg32
  z24 := Tryz.sizeOf32
  v24 := Tryz.zeroValue32
  t26 := Tryz.underlying9
  a26 := Tryz.isAgg9
  z26 := Tryz.sizeOf9
  v26 := Tryz.zeroValue9
  t28 := Tryz.underlying66
  a28 := Tryz.isAgg66
  z28 := Tryz.sizeOf66
  v28 := Tryz.zeroValue66
  i26 := by kernel_rfl }
def Tryz.sortA_ren : Go.Shelf.Ren := ⟨fun | 6 => 88 | 8 => 109 | 9 => 108 | 19 => 124 | 20 => 125 | 21 => 115 | 22 => 116 | 23 => 117 | 24 => 118 | 25 => 119 | 26 => 120 | 27 => 121 | 28 => 122 | 29 => 123 | 36 => 135 | 31 => 136 | 32 => 137 | 37 => 138 | 38 => 139 | 39 => 106 | 41 => 142 | n => n, fun | 27 => 32 | 29 => 9 | 3 => 3 | 32 => 104 | 26 => 32 | 0 => 0 | 44 => 119 | 46 => 121 | 4 => 4 | 36 => 111 | 35 => 110 | 41 => 116 | 5 => 5 | 9 => 9 | 53 => 127 | 57 => 131 | 63 => 135 | 64 => 73 | n => n, fun | n => n⟩
theorem Tryz.sortA : Go.Proofs.SlLaysM.n6 Tryz.prog Tryz.sortA_ren := {
  mixed := by kernel_rfl
  f6 := ⟨Tryz.f88.name, by decide, Tryz.func88.trans (congrArg some (by kernel_rfl))⟩
  f8 := Tryz.func109.trans (congrArg some (by kernel_rfl))
  f9 := ⟨Tryz.f108.name, by decide, Tryz.func108.trans (congrArg some (by kernel_rfl))⟩
  f19 := Tryz.func124.trans (congrArg some (by kernel_rfl))
  f20 := Tryz.func125.trans (congrArg some (by kernel_rfl))
  f21 := ⟨Tryz.f115.name, by decide, Tryz.func115.trans (congrArg some (by kernel_rfl))⟩
  f22 := ⟨Tryz.f116.name, by decide, Tryz.func116.trans (congrArg some (by kernel_rfl))⟩
  f23 := ⟨Tryz.f117.name, by decide, Tryz.func117.trans (congrArg some (by kernel_rfl))⟩
  f24 := ⟨Tryz.f118.name, by decide, Tryz.func118.trans (congrArg some (by kernel_rfl))⟩
  f25 := ⟨Tryz.f119.name, by decide, Tryz.func119.trans (congrArg some (by kernel_rfl))⟩
  f26 := ⟨Tryz.f120.name, by decide, Tryz.func120.trans (congrArg some (by kernel_rfl))⟩
  f27 := ⟨Tryz.f121.name, by decide, Tryz.func121.trans (congrArg some (by kernel_rfl))⟩
  f28 := ⟨Tryz.f122.name, by decide, Tryz.func122.trans (congrArg some (by kernel_rfl))⟩
  f29 := ⟨Tryz.f123.name, by decide, Tryz.func123.trans (congrArg some (by kernel_rfl))⟩
  f31 := Tryz.func136.trans (congrArg some (by kernel_rfl))
  f32 := Tryz.func137.trans (congrArg some (by kernel_rfl))
  f36 := ⟨Tryz.f135.name, by decide, Tryz.func135.trans (congrArg some (by kernel_rfl))⟩
  f37 := ⟨Tryz.f138.name, by decide, Tryz.func138.trans (congrArg some (by kernel_rfl))⟩
  f38 := ⟨Tryz.f139.name, by decide, Tryz.func139.trans (congrArg some (by kernel_rfl))⟩
  f39 := ⟨Tryz.f106.name, by decide, Tryz.func106.trans (congrArg some (by kernel_rfl))⟩
  f41 := ⟨Tryz.f142.name, by decide, Tryz.func142.trans (congrArg some (by kernel_rfl))⟩
  t0 := Tryz.underlying0
  a0 := Tryz.isAgg0
  z0 := Tryz.sizeOf0
  v0 := Tryz.zeroValue0
  t3 := Tryz.underlying3
  a3 := Tryz.isAgg3
  z3 := Tryz.sizeOf3
  v3 := Tryz.zeroValue3
  t4 := Tryz.underlying4
  a4 := Tryz.isAgg4
  z4 := Tryz.sizeOf4
  v4 := Tryz.zeroValue4
  t5 := Tryz.underlying5
  a5 := Tryz.isAgg5
  z5 := Tryz.sizeOf5
  v5 := Tryz.zeroValue5
  t9 := Tryz.underlying9
  a9 := Tryz.isAgg9
  z9 := Tryz.sizeOf9
  v9 := Tryz.zeroValue9
  t26 := Tryz.underlying32
  a26 := Tryz.isAgg32
  z26 := Tryz.sizeOf32
  v26 := Tryz.zeroValue32
  t27 := Tryz.underlying32
  a27 := Tryz.isAgg32
  z27 := Tryz.sizeOf32
  v27 := Tryz.zeroValue32
  t29 := Tryz.underlying9
  a29 := Tryz.isAgg9
  z29 := Tryz.sizeOf9
  v29 := Tryz.zeroValue9
  t32 := Tryz.underlying104
  a32 := Tryz.isAgg104
  z32 := Tryz.sizeOf104
  v32 := Tryz.zeroValue104
  t35 := Tryz.underlying110
  a35 := Tryz.isAgg110
  z35 := Tryz.sizeOf110
  v35 := Tryz.zeroValue110
  t36 := Tryz.underlying111
  a36 := Tryz.isAgg111
  z36 := Tryz.sizeOf111
  v36 := Tryz.zeroValue111
  t41 := Tryz.underlying116
  a41 := Tryz.isAgg116
  z41 := Tryz.sizeOf116
  v41 := Tryz.zeroValue116
  t44 := Tryz.underlying119
  a44 := Tryz.isAgg119
  z44 := Tryz.sizeOf119
  v44 := Tryz.zeroValue119
  t46 := Tryz.underlying121
  a46 := Tryz.isAgg121
  z46 := Tryz.sizeOf121
  v46 := Tryz.zeroValue121
  t53 := Tryz.underlying127
  a53 := Tryz.isAgg127
  z53 := Tryz.sizeOf127
  v53 := Tryz.zeroValue127
  t57 := Tryz.underlying131
  a57 := Tryz.isAgg131
  z57 := Tryz.sizeOf131
  v57 := Tryz.zeroValue131
  t63 := Tryz.underlying135
  a63 := Tryz.isAgg135
  z63 := Tryz.sizeOf135
  v63 := Tryz.zeroValue135
  t64 := Tryz.underlying73
  a64 := Tryz.isAgg73
  z64 := Tryz.sizeOf73
  v64 := Tryz.zeroValue73 }
end Go.Proofs
