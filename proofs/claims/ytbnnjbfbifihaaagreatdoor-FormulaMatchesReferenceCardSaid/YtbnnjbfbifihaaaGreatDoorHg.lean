/-
  Contracts that FormulaMatchesReference stands on, part Hg.
-/
import Derived.Test.YtbnnjbfbifihaaaGreatDoorHe
import Derived.Test.YtbnnjbfbifihaaaGreatDoorHa
namespace Go.Proofs.YtbnnjbfbifihaaaGreatDoor
open Go.RowKit
set_option maxRecDepth 100000
set_option maxHeartbeats 80000000

theorem gather_z {z u : Int} {p : Fm} {ps l : List Fm} (h : p.op = z) : gatherL z u (p :: ps) l = none := by rw [gatherL, if_pos h]
theorem gather_u {z u : Int} {p : Fm} {ps l : List Fm} (h : ¬ p.op = z) (h2 : p.op = u) : gatherL z u (p :: ps) l = gatherL z u ps l := by rw [gatherL, if_neg h, if_pos h2]
theorem gather_p {z u : Int} {p : Fm} {ps l : List Fm} (h : ¬ p.op = z) (h2 : ¬ p.op = u) : gatherL z u (p :: ps) l = gatherL z u ps (insF p l) := by rw [gatherL, if_neg h, if_neg h2]
theorem drop_app {ps R : List Fm} {j : Nat} (h : j < ps.length) : ps.drop j ++ R = ps[j] :: (ps.drop (j + 1) ++ R) := by rw [List.drop_eq_getElem_cons h]; rfl
theorem flat_drop {op : Int} {l : List Fm} {k : Nat} (h : k < l.length) : flatF op (l.drop k) = flat1 op l[k] ++ flatF op (l.drop (k + 1)) := by rw [List.drop_eq_getElem_cons h, flatF_cons]
theorem flat1_sub {op : Int} {l : List Fm} {k : Nat} (h : k < l.length) : ∀ x ∈ flat1 op l[k], x ∈ flatF op l := fun x hx => by
  have : flatF op l = flatF op (l.take k) ++ (flat1 op l[k] ++ flatF op (l.drop (k + 1))) := by rw [← flat_drop h, ← flatF_append, List.take_append_drop]
  rw [this]; simp [hx]
def gatherEnd (op : Int) : Option (List Fm) → Fm
  | none => nullF op
  | some m => if opposedB m = true then nullF op else nodeOf op m
theorem gathered_end (op : Int) (l : List Fm) : gatheredF op l = gatherEnd op (gatherL (nullF op).op (unitF op).op (flatF op l) []) := by
  unfold gatheredF gatherEnd; split <;> rename_i h <;> rw [h]
def Box0 (w : World) (b : Nat) (op : Int) : Prop := ∃ o c, w.heap[b]? = some (.cells #[.int .i64 op, .string ⟨#[]⟩, .int .i64 0, .int .i64 0, .slice o 0 c] 24 (0, 0))
theorem Box0.below {w w' : World} {b : Nat} {op : Int} (h : Box0 w b op) (hB : Below w.heap.size w w') : Box0 w' b op := by
  obtain ⟨o, c, h⟩ := h
  exact ⟨o, c, (hB.block b (Array.getElem?_eq_some_iff.1 h).1).trans h⟩
theorem Box0.lt {w : World} {b : Nat} {op : Int} (h : Box0 w b op) : b < w.heap.size := by
  obtain ⟨o, c, h⟩ := h
  exact (Array.getElem?_eq_some_iff.1 h).1
theorem Box0.cells {w : World} {b : Nat} {op : Int} (h : Box0 w b op) : ∃ o c, w.cell? ⟨b, 0, none⟩ = some (.int .i64 op) ∧ w.cell? ⟨b, 1, none⟩ = some (.string ⟨#[]⟩) ∧ w.cell? ⟨b, 2, none⟩ = some (.int .i64 0) ∧ w.cell? ⟨b, 3, none⟩ = some (.int .i64 0) ∧ w.cell? ⟨b, 4, none⟩ = some (.slice o 0 c) := by
  obtain ⟨o, c, h⟩ := h
  exact ⟨o, c, cell_of_row w b 0 _ _ _ h, cell_of_row w b 1 _ _ _ h, cell_of_row w b 2 _ _ _ h, cell_of_row w b 3 _ _ _ h, cell_of_row w b 4 _ _ _ h⟩
theorem Box0.res {w : World} {b : Nat} {op : Int} (h : Box0 w b op) : Res5 w b := by
  obtain ⟨o, c, h⟩ := h
  exact ⟨_, _, _, _, _, h⟩
theorem NewP.step {P : Nat → Prop} {w w1 w2 : World} (h1 : w.heap.size ≤ w1.heap.size) (h2 : w1.heap.size ≤ w2.heap.size) : ∀ b, NewP (NewP P w w1) w1 w2 b → NewP P w w2 b := by
  rintro b ((hb | ⟨h3, h4⟩) | ⟨h3, h4⟩)
  · exact .inl hb
  · exact .inr ⟨h3, by omega⟩
  · exact .inr ⟨by omega, h4⟩
theorem NewP.later {P : Nat → Prop} {w w1 w2 : World} (h2 : w1.heap.size ≤ w2.heap.size) : ∀ b, NewP P w w1 b → NewP P w w2 b := by
  rintro b (hb | ⟨h3, h4⟩)
  · exact .inl hb
  · exact .inr ⟨h3, by omega⟩
theorem NewP.lt {P : Nat → Prop} {w w1 : World} (hP : ∀ b, P b → b < w1.heap.size) : ∀ b, NewP P w w1 b → b < w1.heap.size := by
  rintro b (hb | ⟨-, h4⟩)
  · exact hP b hb
  · exact h4
theorem gathered_any (op z u : Int) (h56 : Hid ((op = 5 ∧ z = 2 ∧ u = 1) ∨ (op = 6 ∧ z = 1 ∧ u = 2))) (P : Nat → Prop) (v : Value) (args : List Fm) (w : World) (hn : (flatF op args).length ≤ 2000) (h4 : ∀ x ∈ flatF op args, x.op = 4 → 0 < x.args.length) (hv : FArgsP P w v args) (hP : ∀ b, P b → b < w.heap.size) :
    Calls Tryz.prog 74 #[.int .i64 op, v] w fun e w' => ∃ r, e = .returned r ∧ FAtP (NewP P w w') w' r (gatheredF op args) ∧ Below w.heap.size w w' := by
  obtain ⟨o, c, rfl⟩ := hv.shape
  have hlen := hv.len
  obtain ⟨W0, hW0, hB0, hz0, hres0⟩ := res_open w
  have hPR : ∀ b, P b → b ≠ w.heap.size := fun b h => by have := hP b h; omega
  have hnull : Hid (nullF op = mkOp z []) := by rcases h56.out with ⟨h5, hz9, -⟩ | ⟨h5, hz9, -⟩; all_goals (rw [h5, hz9]; exact hidi rfl)
  have hunit : Hid (nodeOf op [] = mkOp u []) := by rcases h56.out with ⟨h5, -, hz9⟩ | ⟨h5, -, hz9⟩; all_goals (rw [h5, hz9]; exact hidi rfl)
  have hzo : Hid ((nullF op).op = z) := by rw [hnull.out]; exact hidi rfl
  have huo : Hid ((unitF op).op = u) := by rw [show unitF op = mkOp u [] from hunit.out]; exact hidi rfl
  have hzI : Hid (I64 z ∧ I64 u ∧ I64 op) := by rcases h56.out with ⟨h5, h8, h9⟩ | ⟨h5, h8, h9⟩; all_goals (rw [h5, h8, h9]; exact hidi ⟨by decide, by decide, by decide⟩)
  obtain ⟨G, hG⟩ : ∃ G, Hid (gatherL z u (flatF op args) [] = G) := ⟨_, hidi rfl⟩
  have hGF : Hid (gatheredF op args = gatherEnd op G) := by unfold Hid; rw [gathered_end, hzo.out, huo.out, hG.out]
  have hn' := hidi hn
  have h4' := hidi h4
  have hv' := hidi hv
  clear hn h4
  go_enter Tryz.func74, Tryz.ntmps74
  go_wp2_with fail
  rw [hW0.out]
  refine (reftrue_any P W0).mono ?_
  rintro e w1 ⟨r1, rfl, hr1, hb1⟩
  obtain ⟨o1, c1, he1, -, -⟩ := hr1.open
  replace he1 : r1 = .agg #[.int .i64 1, .string ⟨#[]⟩, .int .i64 0, .int .i64 0, .slice o1 0 c1] := he1
  subst he1
  obtain ⟨V1, hV1⟩ : ∃ V1, Hid (w1.alloc (.cells #[.int .i64 1, .string ⟨#[]⟩, .int .i64 0, .int .i64 0, .slice o1 0 c1] 24) = V1) := ⟨_, hidi rfl⟩
  have hBV1 : Below w1.heap.size w1 V1 := by rw [← hV1.out]; exact below_box w1 _
  have hV1b : Box0 V1 w1.heap.size 1 := by rw [← hV1.out]; exact ⟨_, _, heap_alloc_new w1 _⟩
  clear hr1
  go_wp2_with fail
  rw [hV1.out]
  refine (reffalse_any P V1).mono ?_
  rintro e w2 ⟨r2, rfl, hr2, hb2⟩
  obtain ⟨o2, c2, he2, -, -⟩ := hr2.open
  replace he2 : r2 = .agg #[.int .i64 2, .string ⟨#[]⟩, .int .i64 0, .int .i64 0, .slice o2 0 c2] := he2
  subst he2
  obtain ⟨V2, hV2⟩ : ∃ V2, Hid (w2.alloc (.cells #[.int .i64 2, .string ⟨#[]⟩, .int .i64 0, .int .i64 0, .slice o2 0 c2] 24) = V2) := ⟨_, hidi rfl⟩
  have hBV2 : Below w2.heap.size w2 V2 := by rw [← hV2.out]; exact below_box w2 _
  have hV2b : Box0 V2 w2.heap.size 2 := by rw [← hV2.out]; exact ⟨_, _, heap_alloc_new w2 _⟩
  have hz1 := hb1.size
  have hzV1 := hBV1.size
  have hz2 := hb2.size
  have hzV2 := hBV2.size
  have hB12 : Below V1.heap.size V1 V2 := hb2.trans (hBV2.mono hz2)
  have hB02 : Below W0.heap.size W0 V2 := (hb1.trans (hBV1.mono hz1)).trans (hB12.mono (by omega))
  have hV1c := hV1b.below hB12
  have hUl := hV1b.lt
  clear hr2
  rcases h56.out with ⟨h5, hz9, hu9⟩ | ⟨h5, hz9, hu9⟩
  have b6 : (op == 6) = false := by rw [h5]; rfl
  have hU : Hid (Box0 V2 w1.heap.size u) := by rw [hu9]; exact hidi hV1c
  have hZ : Hid (Box0 V2 w2.heap.size z) := by rw [hz9]; exact hidi hV2b
  clear h5 hz9 hu9
  focus (go_wp2_with fail)
  rw [hV2.out]
  have hBX := hB02
  clear hV2
  generalize V2 = X at *
  rotate_left
  have b6 : (op == 6) = true := by rw [h5]; rfl
  have hUZ : w1.heap.size ≠ w2.heap.size := by omega
  obtain ⟨z0, z1, z2, z3, z4⟩ := box5 w2 (.int .i64 2) (.string ⟨#[]⟩) (.int .i64 0) (.int .i64 0) (.slice o2 0 c2) 24
  have hbu := box5 w1 (.int .i64 1) (.string ⟨#[]⟩) (.int .i64 0) (.int .i64 0) (.slice o1 0 c1) 24
  rw [hV1.out] at hbu
  obtain ⟨y0, y1, y2, y3, y4⟩ := hbu.below hB12 hUl
  have hru := hV1c.res
  obtain ⟨-, -, -, -, -, -, k0, k1, k2, k3, k4⟩ := hru.cells
  obtain ⟨V3, hV3⟩ : ∃ V3, Hid (((((((w2.alloc (.cells #[.int .i64 2, .string ⟨#[]⟩, .int .i64 0, .int .i64 0, .slice o2 0 c2] 24)).setCell ⟨w1.heap.size, 0, none⟩ (.int .i64 2)).setCell ⟨w1.heap.size, 1, none⟩ (.string ⟨#[]⟩)).setCell ⟨w1.heap.size, 2, none⟩ (.int .i64 0)).setCell ⟨w1.heap.size, 3, none⟩ (.int .i64 0)).setCell ⟨w1.heap.size, 4, none⟩ (.slice o2 0 c2)) = V3) := ⟨_, hidi rfl⟩
  have hV3u : Box0 V3 w1.heap.size 2 := by rw [← hV3.out, hV2.out]; exact ⟨_, _, hru.set _ _ _ _ _⟩
  have hV3z : Box0 V3 w2.heap.size 2 := by rw [← hV3.out]; exact ⟨_, _, (set5_other _ _ _ hUZ.symm _ _ _ _ _).trans (heap_alloc_new w2 _)⟩
  have hrz := hV3z.res
  obtain ⟨d1, d2, d3, d4, d5, ⟨q0, q1, q2, q3, q4⟩, n0, n1, n2, n3, n4⟩ := hrz.cells
  obtain ⟨X, hX⟩ : ∃ X, Hid ((((((((((((w2.alloc (.cells #[.int .i64 2, .string ⟨#[]⟩, .int .i64 0, .int .i64 0, .slice o2 0 c2] 24)).setCell ⟨w1.heap.size, 0, none⟩ (.int .i64 2)).setCell ⟨w1.heap.size, 1, none⟩ (.string ⟨#[]⟩)).setCell ⟨w1.heap.size, 2, none⟩ (.int .i64 0)).setCell ⟨w1.heap.size, 3, none⟩ (.int .i64 0)).setCell ⟨w1.heap.size, 4, none⟩ (.slice o2 0 c2)).setCell ⟨w2.heap.size, 0, none⟩ (.int .i64 1)).setCell ⟨w2.heap.size, 1, none⟩ (.string ⟨#[]⟩)).setCell ⟨w2.heap.size, 2, none⟩ (.int .i64 0)).setCell ⟨w2.heap.size, 3, none⟩ (.int .i64 0)).setCell ⟨w2.heap.size, 4, none⟩ (.slice o1 0 c1)) = X) := ⟨_, hidi rfl⟩
  have hXu : Box0 X w1.heap.size 2 := by
    obtain ⟨o, c, h⟩ := hV3u
    rw [← hX.out, hV3.out]; exact ⟨o, c, (set5_other _ _ _ hUZ _ _ _ _ _).trans h⟩
  have hXz : Box0 X w2.heap.size 1 := by rw [← hX.out, hV3.out]; exact ⟨_, _, hrz.set _ _ _ _ _⟩
  have hBX : Below W0.heap.size W0 X := by
    rw [← hX.out, hV2.out]
    exact set5_below (set5_below hB02 (by omega) _ _ _ _ _) (by omega) _ _ _ _ _
  rw [← hV2.out] at y0 y1 y2 y3 y4 k0 k1 k2 k3 k4
  rw [← hV3.out] at q0 q1 q2 q3 q4 n0 n1 n2 n3 n4
  rw [Nat.zero_add] at z1 z2 z3 z4 y1 y2 y3 y4
  clear h5
  focus (go_wp2_with fail)
  rw [hX.out]
  have hU : Hid (Box0 X w1.heap.size u) := by rw [hu9]; exact hidi hXu
  have hZ : Hid (Box0 X w2.heap.size z) := by rw [hz9]; exact hidi hXz
  clear hXu hXz hV3u hV3z z0 z1 z2 z3 z4 y0 y1 y2 y3 y4 k0 k1 k2 k3 k4 q0 q1 q2 q3 q4 n0 n1 n2 n3 n4 hbu hru hrz hz9 hu9
  rotate_left
  all_goals
    have hzX := hBX.size
    have hresX := hidi (hres0.out.below hBX)
    clear hBV1 hV1b hBV2 hV2b hB12 hB02 hV1c hb1 hb2
    go_loopw [7, 8] (fun lv a wr => ∃ (k : Nat) (m : List Fm) (uo : Option Addr) (uc : Nat), k ≤ args.length ∧ lv = .slice uo m.length uc ∧ a = .int .i64 (k : Int) ∧ Hid (G = gatherL z u (flatF op (args.drop k)) m) ∧ Hid (m.length + (flatF op (args.drop k)).length ≤ 2000) ∧ Hid (∀ x ∈ m, x.op = 4 → 0 < x.args.length) ∧ Hid (FArgsP (NewP P W0 wr) wr (.slice uo m.length uc) m) ∧ Below X.heap.size X wr) (fun _ a _ => args.length - (intOf a).toNat)
    case atStart => exact ⟨0, [], none, 0, Nat.zero_le _, rfl, rfl, hidi hG.out.symm, hidi (by simpa using hn'.out), hidi (fun x hx => by cases hx), hidi (.nil _ _), Below.refl _ _⟩
    case round =>
      obtain ⟨k, m, uo, uc, hk, rfl, rfl, hG1, hm1, hm4, hma1, hB⟩ := hrel
      have hzr := hB.size
      have hB0X : Below w.heap.size w X := hB0.trans (hBX.mono (by omega))
      have hwX := hB0X.size
      have hBw := hB0X.trans (hB.mono hwX)
      by_cases hlt : k < args.length
      · obtain ⟨b, off, rfl, hbb, hat⟩ := FArgsP.at hv (by omega)
        obtain ⟨sl, hcy, hF⟩ := hat k hlt
        have hfd := hidi (flat_drop (op := op) hlt)
        have hfs := hidi (flat1_sub (op := op) hlt)
        generalize args[k] = y at *
        obtain ⟨R, hR⟩ : ∃ R, Hid (flatF op (args.drop (k + 1)) = R) := ⟨_, hidi rfl⟩
        rw [hfd.out, hR.out] at hG1 hm1
        obtain ⟨o9, c9, hfv, hfy, hay⟩ := hF.open
        obtain rfl : sl = .slice o9 y.args.length c9 := by simpa [fval] using hfv
        obtain ⟨e0, e1, e2, e3, e4⟩ := hcy.below hBw (hP b hbb)
        have j1 : (0 : Int) ≤ k := by omega
        have j2 : (k : Int) < args.length := by omega
        obtain ⟨X1, hX1⟩ : ∃ X1, Hid (wr.alloc (.cells #[.int .i64 y.op, .string y.name, .int .i64 y.val, .int .i64 y.bound, .slice o9 y.args.length c9] 24) = X1) := ⟨_, hidi rfl⟩
        have hb1 : Below wr.heap.size wr X1 := by rw [← hX1.out]; exact below_box _ _
        have hz1' : X1.heap.size = wr.heap.size + 1 := by rw [← hX1.out]; simp
        have hyr : X1.heap[wr.heap.size]? = some (.cells #[.int .i64 y.op, .string y.name, .int .i64 y.val, .int .i64 y.bound, .slice o9 y.args.length c9] 24 (0, 0)) := by rw [← hX1.out]; exact heap_alloc_new wr _
        have hBX1 : Below X.heap.size X X1 := hB.trans (hb1.mono (by omega))
        have hFy1 : FArgsP (NewP P W0 X1) X1 (.slice o9 y.args.length c9) y.args := ((hay.kept hBw hP).kept hb1 (fun b h => by have := hP b h; omega)).mono fun b h => .inl h
        have hma := hidi ((hma1.out.kept hb1 (NewP.lt fun b h => by have := hP b h; omega)).mono (NewP.later (P := P) (w := W0) (w1 := wr) (w2 := X1) (by omega)))
        have hly := hFy1.len
        obtain ⟨g0, g1, g2, g3, g4⟩ := hcy.below (hBw.trans (hb1.mono (by omega))) (hP b hbb)
        rw [← hX1.out] at g0 g1 g2 g3 g4
        clear hfv hat hF hcy hay
        by_cases hop : y.op = op
        · obtain ⟨ps, hpse⟩ : ∃ ps, Hid (y.args = ps) := ⟨_, hidi rfl⟩
          have hpn : Hid (ps.length = y.args.length) := by rw [← hpse.out]; exact hidi rfl
          have hps : Hid (FArgsP (NewP P W0 X1) X1 (.slice o9 ps.length c9) ps) := by rw [← hpse.out]; exact hidi hFy1
          have hpf : Hid (∀ x ∈ ps, x ∈ flatF op args) := hidi fun x hx => hfs.out x (by rw [flat1_is hop, hpse.out]; exact hx)
          rw [flat1_is hop, hpse.out] at hG1 hm1
          have hop' : (y.op == op) = true := by simpa using hop
          clear hop hFy1 hyr hfd hfs
          go_wp2_with fail
          rw [hX1.out]
          clear e0 e1 e2 e3 e4 g0 g1 g2 g3 g4
          go_loopw [7, 10] (fun lv a wr2 => ∃ (j : Nat) (m : List Fm) (uo : Option Addr) (uc : Nat), j ≤ y.args.length ∧ lv = .slice uo m.length uc ∧ a = .int .i64 (j : Int) ∧ Hid (G = gatherL z u (ps.drop j ++ R) m) ∧ Hid (m.length + (ps.drop j ++ R).length ≤ 2000) ∧ Hid (∀ x ∈ m, x.op = 4 → 0 < x.args.length) ∧ Hid (FArgsP (NewP P W0 wr2) wr2 (.slice uo m.length uc) m) ∧ Below X1.heap.size X1 wr2) (fun _ a _ => y.args.length - (intOf a).toNat)
          case atStart => exact ⟨0, m, uo, uc, Nat.zero_le _, rfl, rfl, hG1, hm1, hm4, hma, Below.refl _ _⟩
          case round =>
            clear hG1 hm1 hm4 hma1 hma
            obtain ⟨j, m, uo, uc, hj, rfl, rfl, hG2, hm2, hm5, hma2, hB2⟩ := hrel
            have hB3 : Below X.heap.size X wr := hBX1.trans (hB2.mono (by omega))
            have hzB := hB3.size
            have hz2 := hB2.size
            have hBw3 := hB0X.trans (hB3.mono hwX)
            by_cases hlt3 : j < y.args.length
            · have hlt4 : j < ps.length := by rw [hpn.out]; exact hlt3
              obtain ⟨b2, off2, hpo, hbb2, hat2⟩ := FArgsP.at hps.out (by omega)
              obtain ⟨sl2, hcp, hFp⟩ := hat2 j hlt4
              have hD := hidi (drop_app (R := R) hlt4)
              have hmem := hidi (hpf.out ps[j] (List.getElem_mem hlt4))
              have hPX1 : ∀ b, NewP P W0 X1 b → b < X1.heap.size := NewP.lt fun b h => by have := hP b h; omega
              generalize ps[j] = p at *
              obtain ⟨o8, c8, hfv, -, -⟩ := hFp.open
              obtain rfl : sl2 = .slice o8 p.args.length c8 := by simpa [fval] using hfv
              cases hpo
              obtain ⟨e0, e1, e2, e3, e4⟩ := hcp.below hB2 (hPX1 _ hbb2)
              have hFp' := hidi hFp
              obtain ⟨oz, cz, z0, z1, z2, z3, z4⟩ := (hZ.out.below hB3).cells
              obtain ⟨ou, cu, y0, y1, y2, y3, y4⟩ := (hU.out.below hB3).cells
              have j1 : (0 : Int) ≤ j := by omega
              have j2 : (j : Int) < y.args.length := by omega
              clear hfv hat2 hFp hcp hlt4
              by_cases q : p.op = z
              · have q' : (p.op == z) = true := by simpa using q
                have hR0 : Hid (gatheredF op args = mkOp z []) := by unfold Hid; rw [hGF.out, hG2.out, hD.out, gather_z q]; exact hnull.out
                have hr3 := hidi (hresX.out.below hB3)
                obtain ⟨a1, a2, a3, a4, a5, ⟨i0, i1, i2, i3, i4⟩, k0, k1, k2, k3, k4⟩ := hr3.out.cells
                clear hG2 hD q
                go_wp2_with fail
                go_quiet (fail)
                go_wp2_with fail
                (try simp only [Exit.inBlock, Exit.then])
                refine bodyPost_ret (results_cell_row rfl _ _ w.heap.size 24 _ (0, 0) _ rfl (Res5.set (hr3.out.below (below_drewN (Below.refl _ _) _)) _ _ _ _ _) Tryz.underlying24 rfl fmSize) rfl ?_
                rw [hR0.out]
                exact ⟨_, rfl, fm_put (Nat.le_refl _) (hBw3.trans (below_drewN (Below.refl _ _) _)) (.mk hzI.out.1 size_0 i64_0 i64_0 (.nil _ _)) hPR (fun b h => .inl h) _ _ _ _ _⟩
              · have q' : (p.op == z) = false := by simpa using q
                by_cases qu : p.op = u
                · have qu' : (p.op != u) = false := by simpa using qu
                  have hG3 : Hid (G = gatherL z u (ps.drop (j + 1) ++ R) m) := by unfold Hid; rw [hG2.out, hD.out, gather_u q qu]
                  have hm3 : Hid (m.length + (ps.drop (j + 1) ++ R).length ≤ 2000) := by have := hm2.out; rw [hD.out] at this; simp only [List.length_cons] at this; unfold Hid; omega
                  clear hG2 hm2 hD q qu
                  go_wp2_with fail
                  go_quiet (fail)
                  go_wp2_with fail
                  go_quiet (fail)
                  go_wp2_with fail
                  go_roundw
                  case rel => exact ⟨j + 1, m, uo, uc, by omega, rfl, by go_num, hG3, hm3, hm5, hidi (hma2.out.kept (below_drewN (Below.refl _ _) _) (NewP.lt fun b h => by have := hP b h; omega)), below_drewN hB2 _⟩
                  case measure => simp [intOf]; omega
                · have qu' : (p.op != u) = true := by simpa using qu
                  have hG3 : Hid (G = gatherL z u (ps.drop (j + 1) ++ R) (insF p m)) := by unfold Hid; rw [hG2.out, hD.out, gather_p q qu]
                  have hml := insF_length p m
                  have hm3 : Hid ((insF p m).length + (ps.drop (j + 1) ++ R).length ≤ 2000) := by have := hm2.out; rw [hD.out] at this; simp only [List.length_cons] at this; unfold Hid; omega
                  have hml2 : m.length ≤ 2000 := by have := hm2.out; omega
                  have hm6 : Hid (∀ x ∈ insF p m, x.op = 4 → 0 < x.args.length) := hidi fun x hx => by
                    rcases mem_insF.1 hx with rfl | hx
                    · exact h4'.out _ hmem.out
                    · exact hm5.out x hx
                  clear hG2 hm2 hD q qu
                  go_wp2_with fail
                  go_quiet (fail)
                  go_wp2_with fail
                  go_quiet (fail)
                  go_wp2_with fail
                  refine (refput_any (NewP P W0 wr) (.slice uo m.length uc) (fval p (.slice o8 p.args.length c8)) m p _ hml2 (by exact hma2.out.kept (below_drewN (Below.refl _ _) _) (NewP.lt fun b h => by have := hP b h; omega)) (by exact ((hFp'.out.kept hB2 hPX1).mono (NewP.later hz2)).kept (below_drewN (Below.refl _ _) _) (NewP.lt fun b h => by have := hP b h; omega)) (by exact NewP.lt fun b h => by have := hP b h; omega)).mono ?_
                  rintro e w3 ⟨r3, rfl, hr3, hb3⟩
                  have hB4 : Below X1.heap.size X1 w3 := (below_drewN hB2 _).trans (hb3.mono (by simp; omega))
                  have hz3 : wr.heap.size ≤ w3.heap.size := hb3.size
                  obtain ⟨uo3, uc3, rfl⟩ := hr3.shape
                  have hr4 := hidi (hr3.mono (NewP.step (P := P) (w := W0) (w1 := wr) (w2 := w3) (by omega) hz3))
                  clear hr3 hb3
                  go_wp2_with fail
                  go_roundw
                  case rel => exact ⟨j + 1, insF p m, uo3, uc3, by omega, rfl, by go_num, hG3, hm3, hm6, hr4, hB4⟩
                  case measure => simp [intOf]; omega
            · obtain rfl : j = y.args.length := by omega
              have hd0 : ps.drop y.args.length = [] := List.drop_of_length_le (by rw [hpn.out]; exact Nat.le_refl _)
              rw [hd0, List.nil_append, ← hR.out] at hG2 hm2
              clear hd0
              go_wp2_with fail
              go_roundw
              case rel => exact ⟨k + 1, m, uo, uc, by omega, rfl, by go_num, hG2, hm2, hm5, hma2, hB3⟩
              case measure => simp [intOf]; omega
        · obtain ⟨ps, hpse⟩ : ∃ ps, Hid ([y] = ps) := ⟨_, hidi rfl⟩
          have hpn : Hid (ps.length = 1) := by rw [← hpse.out]; exact hidi rfl
          have hps : Hid (FArgsP (NewP P W0 X1) X1 (.slice (some ⟨wr.heap.size, 0, none⟩) ps.length 1) ps) := by rw [← hpse.out]; exact hidi (args_one (.inr ⟨by omega, by omega⟩) hyr hfy hFy1)
          have hpf : Hid (∀ x ∈ ps, x ∈ flatF op args) := hidi fun x hx => hfs.out x (by rw [flat1_not hop, hpse.out]; exact hx)
          rw [flat1_not hop, hpse.out] at hG1 hm1
          have hop' : (y.op == op) = false := by simpa using hop
          clear hop hFy1 hyr hfd hfs
          go_wp2_with fail
          rw [hX1.out]
          clear e0 e1 e2 e3 e4 g0 g1 g2 g3 g4
          go_loopw [7, 10] (fun lv a wr2 => ∃ (j : Nat) (m : List Fm) (uo : Option Addr) (uc : Nat), j ≤ 1 ∧ lv = .slice uo m.length uc ∧ a = .int .i64 (j : Int) ∧ Hid (G = gatherL z u (ps.drop j ++ R) m) ∧ Hid (m.length + (ps.drop j ++ R).length ≤ 2000) ∧ Hid (∀ x ∈ m, x.op = 4 → 0 < x.args.length) ∧ Hid (FArgsP (NewP P W0 wr2) wr2 (.slice uo m.length uc) m) ∧ Below X1.heap.size X1 wr2) (fun _ a _ => 1 - (intOf a).toNat)
          case atStart => exact ⟨0, m, uo, uc, Nat.zero_le _, rfl, rfl, hG1, hm1, hm4, hma, Below.refl _ _⟩
          case round =>
            clear hG1 hm1 hm4 hma1 hma
            obtain ⟨j, m, uo, uc, hj, rfl, rfl, hG2, hm2, hm5, hma2, hB2⟩ := hrel
            have hB3 : Below X.heap.size X wr := hBX1.trans (hB2.mono (by omega))
            have hzB := hB3.size
            have hz2 := hB2.size
            have hBw3 := hB0X.trans (hB3.mono hwX)
            by_cases hlt3 : j < 1
            · have hlt4 : j < ps.length := by rw [hpn.out]; exact hlt3
              obtain ⟨b2, off2, hpo, hbb2, hat2⟩ := FArgsP.at hps.out (by omega)
              obtain ⟨sl2, hcp, hFp⟩ := hat2 j hlt4
              have hD := hidi (drop_app (R := R) hlt4)
              have hmem := hidi (hpf.out ps[j] (List.getElem_mem hlt4))
              have hPX1 : ∀ b, NewP P W0 X1 b → b < X1.heap.size := NewP.lt fun b h => by have := hP b h; omega
              generalize ps[j] = p at *
              obtain ⟨o8, c8, hfv, -, -⟩ := hFp.open
              obtain rfl : sl2 = .slice o8 p.args.length c8 := by simpa [fval] using hfv
              cases hpo
              obtain ⟨e0, e1, e2, e3, e4⟩ := hcp.below hB2 (hPX1 _ hbb2)
              rw [Nat.zero_add] at e0 e1 e2 e3 e4
              have hFp' := hidi hFp
              obtain ⟨oz, cz, z0, z1, z2, z3, z4⟩ := (hZ.out.below hB3).cells
              obtain ⟨ou, cu, y0, y1, y2, y3, y4⟩ := (hU.out.below hB3).cells
              have j1 : (0 : Int) ≤ j := by omega
              have j2 : (j : Int) < 1 := by omega
              clear hfv hat2 hFp hcp hlt4
              by_cases q : p.op = z
              · have q' : (p.op == z) = true := by simpa using q
                have hR0 : Hid (gatheredF op args = mkOp z []) := by unfold Hid; rw [hGF.out, hG2.out, hD.out, gather_z q]; exact hnull.out
                have hr3 := hidi (hresX.out.below hB3)
                obtain ⟨a1, a2, a3, a4, a5, ⟨i0, i1, i2, i3, i4⟩, k0, k1, k2, k3, k4⟩ := hr3.out.cells
                clear hG2 hD q
                go_wp2_with fail
                go_quiet (fail)
                go_wp2_with fail
                (try simp only [Exit.inBlock, Exit.then])
                refine bodyPost_ret (results_cell_row rfl _ _ w.heap.size 24 _ (0, 0) _ rfl (Res5.set (hr3.out.below (below_drewN (Below.refl _ _) _)) _ _ _ _ _) Tryz.underlying24 rfl fmSize) rfl ?_
                rw [hR0.out]
                exact ⟨_, rfl, fm_put (Nat.le_refl _) (hBw3.trans (below_drewN (Below.refl _ _) _)) (.mk hzI.out.1 size_0 i64_0 i64_0 (.nil _ _)) hPR (fun b h => .inl h) _ _ _ _ _⟩
              · have q' : (p.op == z) = false := by simpa using q
                by_cases qu : p.op = u
                · have qu' : (p.op != u) = false := by simpa using qu
                  have hG3 : Hid (G = gatherL z u (ps.drop (j + 1) ++ R) m) := by unfold Hid; rw [hG2.out, hD.out, gather_u q qu]
                  have hm3 : Hid (m.length + (ps.drop (j + 1) ++ R).length ≤ 2000) := by have := hm2.out; rw [hD.out] at this; simp only [List.length_cons] at this; unfold Hid; omega
                  clear hG2 hm2 hD q qu
                  go_wp2_with fail
                  go_quiet (fail)
                  go_wp2_with fail
                  go_quiet (fail)
                  go_wp2_with fail
                  go_roundw
                  case rel => exact ⟨j + 1, m, uo, uc, by omega, rfl, by go_num, hG3, hm3, hm5, hidi (hma2.out.kept (below_drewN (Below.refl _ _) _) (NewP.lt fun b h => by have := hP b h; omega)), below_drewN hB2 _⟩
                  case measure => simp [intOf]; omega
                · have qu' : (p.op != u) = true := by simpa using qu
                  have hG3 : Hid (G = gatherL z u (ps.drop (j + 1) ++ R) (insF p m)) := by unfold Hid; rw [hG2.out, hD.out, gather_p q qu]
                  have hml := insF_length p m
                  have hm3 : Hid ((insF p m).length + (ps.drop (j + 1) ++ R).length ≤ 2000) := by have := hm2.out; rw [hD.out] at this; simp only [List.length_cons] at this; unfold Hid; omega
                  have hml2 : m.length ≤ 2000 := by have := hm2.out; omega
                  have hm6 : Hid (∀ x ∈ insF p m, x.op = 4 → 0 < x.args.length) := hidi fun x hx => by
                    rcases mem_insF.1 hx with rfl | hx
                    · exact h4'.out _ hmem.out
                    · exact hm5.out x hx
                  clear hG2 hm2 hD q qu
                  go_wp2_with fail
                  go_quiet (fail)
                  go_wp2_with fail
                  go_quiet (fail)
                  go_wp2_with fail
                  refine (refput_any (NewP P W0 wr) (.slice uo m.length uc) (fval p (.slice o8 p.args.length c8)) m p _ hml2 (by exact hma2.out.kept (below_drewN (Below.refl _ _) _) (NewP.lt fun b h => by have := hP b h; omega)) (by exact ((hFp'.out.kept hB2 hPX1).mono (NewP.later hz2)).kept (below_drewN (Below.refl _ _) _) (NewP.lt fun b h => by have := hP b h; omega)) (by exact NewP.lt fun b h => by have := hP b h; omega)).mono ?_
                  rintro e w3 ⟨r3, rfl, hr3, hb3⟩
                  have hB4 : Below X1.heap.size X1 w3 := (below_drewN hB2 _).trans (hb3.mono (by simp; omega))
                  have hz3 : wr.heap.size ≤ w3.heap.size := hb3.size
                  obtain ⟨uo3, uc3, rfl⟩ := hr3.shape
                  have hr4 := hidi (hr3.mono (NewP.step (P := P) (w := W0) (w1 := wr) (w2 := w3) (by omega) hz3))
                  clear hr3 hb3
                  go_wp2_with fail
                  go_roundw
                  case rel => exact ⟨j + 1, insF p m, uo3, uc3, by omega, rfl, by go_num, hG3, hm3, hm6, hr4, hB4⟩
                  case measure => simp [intOf]; omega
            · obtain rfl : j = 1 := by omega
              have hd0 : ps.drop 1 = [] := List.drop_of_length_le (by rw [hpn.out]; exact Nat.le_refl _)
              rw [hd0, List.nil_append, ← hR.out] at hG2 hm2
              clear hd0
              go_wp2_with fail
              go_roundw
              case rel => exact ⟨k + 1, m, uo, uc, by omega, rfl, by go_num, hG2, hm2, hm5, hma2, hB3⟩
              case measure => simp [intOf]; omega
      · obtain rfl : k = args.length := by omega
        have hGm : Hid (G = some m) := by unfold Hid; rw [hG1.out, List.drop_of_length_le (Nat.le_refl _), flatF_nil, gatherL]
        have hml : m.length ≤ 2000 := by have := hm1.out; omega
        have hPw : ∀ b, NewP P W0 wr b → b < wr.heap.size := NewP.lt fun b h => by have := hP b h; omega
        clear hG1 hm1
        go_wp2_with fail
        refine (refopposed_any (NewP P W0 wr) _ m wr hma1.out hPw hm4.out).mono ?_
        rintro e w3 ⟨rfl, hb3⟩
        have hz3 := hb3.size
        have hB3 : Below X.heap.size X w3 := hB.trans (hb3.mono hzr)
        have hBw3 := hB0X.trans (hB3.mono hwX)
        have hr3 := hidi (hresX.out.below hB3)
        obtain ⟨a1, a2, a3, a4, a5, ⟨i0, i1, i2, i3, i4⟩, k0, k1, k2, k3, k4⟩ := hr3.out.cells
        obtain ⟨oz, cz, z0, z1, z2, z3, z4⟩ := (hZ.out.below hB3).cells
        obtain ⟨ou, cu, y0, y1, y2, y3, y4⟩ := (hU.out.below hB3).cells
        have hPw3 : ∀ b, NewP P W0 w3 b → b < w3.heap.size := NewP.lt fun b h => by have := hP b h; omega
        have hma3 := hidi ((hma1.out.kept hb3 hPw).mono (NewP.later (P := P) (w := W0) (w1 := wr) (w2 := w3) hz3))
        clear hma1 hPw hb3
        cases qo : opposedB m
        · have hend : Hid (gatheredF op args = nodeOf op m) := by unfold Hid; rw [hGF.out, hGm.out]; show (if opposedB m = true then _ else _) = _; rw [qo]; first | exact hnull.out | rfl
          by_cases h0 : m.length = 0
          · obtain rfl : m = [] := List.length_eq_zero_iff.1 h0
            clear h0
            go_wp2_with fail
            (try simp only [Exit.inBlock, Exit.then])
            refine bodyPost_ret (results_cell_row rfl _ _ w.heap.size 24 _ (0, 0) _ rfl (hr3.out.set _ _ _ _ _) Tryz.underlying24 rfl fmSize) rfl ?_
            rw [hend.out, hunit.out]
            exact ⟨_, rfl, fm_put (Nat.le_refl _) hBw3 (.mk hzI.out.2.1 size_0 i64_0 i64_0 (.nil _ _)) hPR (fun b h => .inl h) _ _ _ _ _⟩
          · have h0' : ((m.length : Int) == 0) = false := by rw [beq_eq_false_iff_ne]; omega
            by_cases h1 : m.length = 1
            · obtain ⟨x, rfl⟩ := List.length_eq_one_iff.1 h1
              obtain ⟨b3, off3, rfl, hbb3, hat3⟩ := FArgsP.at hma3.out (by simp)
              obtain ⟨sl3, hcx, hFx⟩ := hat3 0 (by simp)
              obtain ⟨o8, c8, hfv, hfx, hax⟩ := hFx.open
              simp only [List.getElem_cons_zero] at hcx hfv hfx hax
              obtain rfl : sl3 = .slice o8 x.args.length c8 := by simpa [fval] using hfv
              obtain ⟨e0, e1, e2, e3, e4⟩ := hcx
              rw [Nat.zero_mul, Nat.add_zero] at e0 e1 e2 e3 e4
              have hFx' : Hid (FAtP (NewP P W0 w3) w3 (fval x (.slice o8 x.args.length c8)) x) := hidi ⟨_, rfl, hfx, hax⟩
              clear h0 h1 hat3 hFx hfv hax
              go_wp2_with fail
              (try simp only [Exit.inBlock, Exit.then])
              refine bodyPost_ret (results_cell_row rfl _ _ w.heap.size 24 _ (0, 0) _ rfl (hr3.out.set _ _ _ _ _) Tryz.underlying24 rfl fmSize) rfl ?_
              rw [hend.out]
              exact ⟨_, rfl, fm_put (Nat.le_refl _) hBw3 hFx'.out (fun b h => by rcases h with h | h; exact hPR b h; omega) (fun b h => by rcases h with h | h; exact .inl h; exact .inr ⟨by omega, h.2⟩) _ _ _ _ _⟩
            · have h1' : ((m.length : Int) == 1) = false := by rw [beq_eq_false_iff_ne]; omega
              have hn2 : Hid (nodeOf op m = mkOp op m) := by
                rcases m with _ | ⟨x, _ | ⟨x2, m⟩⟩
                · exact absurd rfl h0
                · exact absurd rfl h1
                · exact hidi rfl
              clear h0 h1 i0 i1 i2 i3 i4 k0 k1 k2 k3 k4 z0 z1 z2 z3 z4 y0 y1 y2 y3 y4
              go_wp2_with fail
              refine (refop_any (NewP P W0 w3) op _ m w3 hma3.out hPw3 hzI.out.2.2).mono ?_
              rintro e w4 ⟨r4, rfl, hr4, hb4⟩
              have hz4 := hb4.size
              obtain ⟨o4, c4, rfl, -, -⟩ := hr4.open
              have hre4 := hidi (hr3.out.below hb4)
              have hBw4 := hBw3.trans (hb4.mono hBw3.size)
              obtain ⟨a1, a2, a3, a4, a5, ⟨i0, i1, i2, i3, i4⟩, k0, k1, k2, k3, k4⟩ := hre4.out.cells
              have hr4' := hidi hr4
              clear hr4 hb4
              go_wp2_with fail
              (try simp only [Exit.inBlock, Exit.then])
              refine bodyPost_ret (results_cell_row rfl _ _ w.heap.size 24 _ (0, 0) _ rfl (hre4.out.set _ _ _ _ _) Tryz.underlying24 rfl fmSize) rfl ?_
              rw [hend.out, hn2.out]
              exact ⟨_, rfl, fm_put (Nat.le_refl _) hBw4 hr4'.out (fun b h => by rcases h with (h | h) | h; exact hPR b h; all_goals omega) (fun b h => by rcases h with (h | h) | h; exact .inl h; all_goals exact .inr ⟨by omega, by omega⟩) _ _ _ _ _⟩
        · have hend : Hid (gatheredF op args = mkOp z []) := by unfold Hid; rw [hGF.out, hGm.out]; show (if opposedB m = true then _ else _) = _; rw [qo]; first | exact hnull.out | rfl
          go_wp2_with fail
          (try simp only [Exit.inBlock, Exit.then])
          refine bodyPost_ret (results_cell_row rfl _ _ w.heap.size 24 _ (0, 0) _ rfl (hr3.out.set _ _ _ _ _) Tryz.underlying24 rfl fmSize) rfl ?_
          rw [hend.out]
          exact ⟨_, rfl, fm_put (Nat.le_refl _) hBw3 (.mk hzI.out.1 size_0 i64_0 i64_0 (.nil _ _)) hPR (fun b h => .inl h) _ _ _ _ _⟩
theorem gathered_5 (P : Nat → Prop) (v : Value) (args : List Fm) (w : World) (hn : (flatF 5 args).length ≤ 2000) (h4 : ∀ x ∈ flatF 5 args, x.op = 4 → 0 < x.args.length) (hv : FArgsP P w v args) (hP : ∀ b, P b → b < w.heap.size) :
    Calls Tryz.prog 74 #[.int .i64 5, v] w fun e w' => ∃ r, e = .returned r ∧ FAtP (NewP P w w') w' r (gatheredF 5 args) ∧ Below w.heap.size w w' := gathered_any 5 2 1 (hidi (.inl ⟨rfl, rfl, rfl⟩)) P v args w hn h4 hv hP
theorem gathered_6 (P : Nat → Prop) (v : Value) (args : List Fm) (w : World) (hn : (flatF 6 args).length ≤ 2000) (h4 : ∀ x ∈ flatF 6 args, x.op = 4 → 0 < x.args.length) (hv : FArgsP P w v args) (hP : ∀ b, P b → b < w.heap.size) :
    Calls Tryz.prog 74 #[.int .i64 6, v] w fun e w' => ∃ r, e = .returned r ∧ FAtP (NewP P w w') w' r (gatheredF 6 args) ∧ Below w.heap.size w w' := gathered_any 6 1 2 (hidi (.inr ⟨rfl, rfl, rfl⟩)) P v args w hn h4 hv hP
theorem refgathered_any (op : Int) (ho : gath op) (P : Nat → Prop) (v : Value) (args : List Fm) (w : World) (hn : (flatF op args).length ≤ 2000) (h4 : ∀ x ∈ flatF op args, x.op = 4 → 0 < x.args.length) (hv : FArgsP P w v args) (hP : ∀ b, P b → b < w.heap.size) :
    Calls Tryz.prog 74 #[.int .i64 op, v] w fun e w' => ∃ r, e = .returned r ∧ FAtP (NewP P w w') w' r (gatheredF op args) ∧ Below w.heap.size w w' := by
  rcases ho with rfl | rfl
  · exact gathered_5 P v args w hn h4 hv hP
  · exact gathered_6 P v args w hn h4 hv hP
theorem arg_nodes {f g : Fm} (hg : g ∈ f.args) : g.nodes ≤ f.nodes := by
  obtain ⟨j, hj, rfl⟩ := List.getElem_of_mem hg
  have := Fm.nodes_get hj
  rw [f.nodes_eq]
  omega
theorem two_args {l : List Fm} (h : 2 ≤ l.length) : ∃ x z t, x :: z :: t = l := by
  rcases l with _ | ⟨x, _ | ⟨z, t⟩⟩
  · simp at h
  · simp at h
  · exact ⟨x, z, t, rfl⟩
theorem cn_store {f : Fm} {w W0 wr : World} {Q : Nat → Prop} {L : List Fm} {u vv z1 z2 z3 z4 z5 : Value} (hW0 : Hid ((w.alloc (.cells #[.int .i64 f.op, .string f.name, .int .i64 f.val, .int .i64 f.bound, u] 24)).alloc (.cells #[z1, z2, z3, z4, z5] 24) = W0)) (hB : Below W0.heap.size W0 wr) (hW : Below w.heap.size w wr) (hhr : Res5 wr (w.heap.size + 1)) (hfit : Fits f) (hv : FArgsP Q wr vv L) (hQ : ∀ b, Q b → b ≠ w.heap.size) :
    ∃ V, Hid (wr.setCell ⟨w.heap.size, 4, none⟩ vv = V) ∧ Hid (Below w.heap.size w V) ∧ Hid (Res5 V (w.heap.size + 1)) ∧ V.heap.size = wr.heap.size ∧ FAtP Q V (.agg #[.int .i64 f.op, .string f.name, .int .i64 f.val, .int .i64 f.bound, vv]) (.mk f.op f.name f.val f.bound L) ∧
      (wr.frozen? ⟨w.heap.size, 0, none⟩ = false ∧ wr.frozen? ⟨w.heap.size, 1, none⟩ = false ∧ wr.frozen? ⟨w.heap.size, 2, none⟩ = false ∧ wr.frozen? ⟨w.heap.size, 3, none⟩ = false ∧ wr.frozen? ⟨w.heap.size, 4, none⟩ = false) ∧
      ((wr.setCell ⟨w.heap.size, 4, none⟩ vv).cell? ⟨w.heap.size, 0, none⟩ = some (.int .i64 f.op) ∧ (wr.setCell ⟨w.heap.size, 4, none⟩ vv).cell? ⟨w.heap.size, 1, none⟩ = some (.string f.name) ∧ (wr.setCell ⟨w.heap.size, 4, none⟩ vv).cell? ⟨w.heap.size, 2, none⟩ = some (.int .i64 f.val) ∧ (wr.setCell ⟨w.heap.size, 4, none⟩ vv).cell? ⟨w.heap.size, 3, none⟩ = some (.int .i64 f.bound) ∧ (wr.setCell ⟨w.heap.size, 4, none⟩ vv).cell? ⟨w.heap.size, 4, none⟩ = some vv) ∧
      ∃ a1 a2 a3 a4 a5, ((wr.setCell ⟨w.heap.size, 4, none⟩ vv).cell? ⟨w.heap.size + 1, 0, none⟩ = some a1 ∧ (wr.setCell ⟨w.heap.size, 4, none⟩ vv).cell? ⟨w.heap.size + 1, 1, none⟩ = some a2 ∧ (wr.setCell ⟨w.heap.size, 4, none⟩ vv).cell? ⟨w.heap.size + 1, 2, none⟩ = some a3 ∧ (wr.setCell ⟨w.heap.size, 4, none⟩ vv).cell? ⟨w.heap.size + 1, 3, none⟩ = some a4 ∧ (wr.setCell ⟨w.heap.size, 4, none⟩ vv).cell? ⟨w.heap.size + 1, 4, none⟩ = some a5) ∧ (wr.setCell ⟨w.heap.size, 4, none⟩ vv).frozen? ⟨w.heap.size + 1, 0, none⟩ = false ∧ (wr.setCell ⟨w.heap.size, 4, none⟩ vv).frozen? ⟨w.heap.size + 1, 1, none⟩ = false ∧ (wr.setCell ⟨w.heap.size, 4, none⟩ vv).frozen? ⟨w.heap.size + 1, 2, none⟩ = false ∧ (wr.setCell ⟨w.heap.size, 4, none⟩ vv).frozen? ⟨w.heap.size + 1, 3, none⟩ = false ∧ (wr.setCell ⟨w.heap.size, 4, none⟩ vv).frozen? ⟨w.heap.size + 1, 4, none⟩ = false := by
  have hrow0 := (fm2_box hW0).1
  have hz00 := (fm2_box hW0).2
  have hrowr := (hB.block w.heap.size (by omega)).trans hrow0
  have hbr : Res5 wr w.heap.size := ⟨_, _, _, _, _, hrowr⟩
  obtain ⟨-, -, -, -, -, -, m0, m1, m2, m3, m4⟩ := hbr.cells
  have hrowV : (wr.setCell ⟨w.heap.size, 4, none⟩ vv).heap[w.heap.size]? = some (.cells #[.int .i64 f.op, .string f.name, .int .i64 f.val, .int .i64 f.bound, vv] 24 (0, 0)) := by
    simp only [World.setCell, Array.getElem?_modify]; simp [hrowr]
  have hoth : ∀ b, b ≠ w.heap.size → (wr.setCell ⟨w.heap.size, 4, none⟩ vv).heap[b]? = wr.heap[b]? := fun b hb => Below.heap_setCell _ _ _ _ hb
  have hr1 : Res5 (wr.setCell ⟨w.heap.size, 4, none⟩ vv) (w.heap.size + 1) := by
    obtain ⟨a1, a2, a3, a4, a5, h⟩ := hhr
    exact ⟨a1, a2, a3, a4, a5, (hoth _ (by omega)).trans h⟩
  exact ⟨_, hidi rfl, hidi (hW.setCell (p := ⟨w.heap.size, 4, none⟩) (Nat.le_refl _) _), hidi hr1, by simp only [World.setCell, Array.size_modify], FAtP.mk hfit.1 hfit.2.1 hfit.2.2.1 hfit.2.2.2 (hv.same fun b hb => hoth b (hQ b hb)), ⟨m0, m1, m2, m3, m4⟩,
    ⟨cell_of_row _ _ 0 _ _ _ hrowV, cell_of_row _ _ 1 _ _ _ hrowV, cell_of_row _ _ 2 _ _ _ hrowV, cell_of_row _ _ 3 _ _ _ hrowV, cell_of_row _ _ 4 _ _ _ hrowV⟩, hr1.cells⟩
theorem refcn_any (f : Fm)  (ih : Hid (∀ g ∈ f.args, RefCanon g)) (hl9 : f.args.length ≤ 1000) (L : List Fm) (hL : Hid ((f.args.map fun x => canonF x) = L)) (hcn : canonF f = canonN f.op f.name f.val f.bound (f.args.map canonF)) (har : (f.op = 8 → f.args ≠ []) ∧ (f.op = 9 ∨ f.op = 10 → 2 ≤ f.args.length)) (hLl : Hid (L.length = f.args.length)) (hgth : Hid (f.op = 5 ∨ f.op = 6 → canonF f = gatheredF f.op L)) (hfl : Hid (f.op = 5 ∨ f.op = 6 → (flatF f.op L).length ≤ 2000 ∧ ∀ x ∈ flatF f.op L, x.op = 4 → 0 < x.args.length))
    (P : Nat → Prop) (v : Value) (w : World) (hv : FAtP P w v f) (hP : ∀ b, P b → b < w.heap.size) :
    Calls Tryz.prog 71 #[v] w fun e w' => ∃ r, e = .returned r ∧ FAtP (NewP P w w') w' r (canonF f) ∧ Below w.heap.size w w' := by
  obtain ⟨o, c, rfl, hfit, hA⟩ := hv.open
  obtain ⟨W0, hW0, hB0, hc, hc2, hlt⟩ := fm2_open w (.int .i64 f.op) (.string f.name) (.int .i64 f.val) (.int .i64 f.bound) (.slice o f.args.length c) (.int .i64 0) (.string ⟨#[]⟩) (.int .i64 0) (.int .i64 0) (.slice none 0 0)
  have hlen := hA.len
  have hres : Hid (Res5 W0 (w.heap.size + 1)) := by
    have h2 := heap_alloc_new (w.alloc (.cells #[.int .i64 f.op, .string f.name, .int .i64 f.val, .int .i64 f.bound, .slice o f.args.length c] 24)) (.cells #[.int .i64 0, .string ⟨#[]⟩, .int .i64 0, .int .i64 0, .slice none 0 0] 24)
    rw [show (w.alloc (.cells #[.int .i64 f.op, .string f.name, .int .i64 f.val, .int .i64 f.bound, .slice o f.args.length c] 24)).heap.size = w.heap.size + 1 by simp] at h2
    rw [hW0.out] at h2
    exact ⟨_, _, _, _, _, h2⟩
  have hPW : ∀ b, P b → b < W0.heap.size := fun b h => by have := hP b h; omega
  obtain ⟨d0, d1, d2, d3, d4⟩ := hc.out
  rw [Nat.zero_add] at d1 d2 d3 d4
  go_enter Tryz.func71, Tryz.ntmps71
  go_wp2_with fail
  rw [hW0.out]
  go_loopw [3, 4] (fun a i wr => ∃ (k : Nat) (es : List (Fm × Value)) (uo : Option Addr) (uc : Nat), k ≤ f.args.length ∧ a = .slice uo k uc ∧ i = .int .i64 (k : Int) ∧ Hid (es.length = k) ∧ Hid (es.map Prod.fst = L.take k) ∧ OwnFs P W0.heap.size wr (.slice uo k uc) es ∧ Below W0.heap.size W0 wr) (fun _ i _ => f.args.length - (intOf i).toNat)
  case atStart => exact ⟨0, [], none, 0, Nat.zero_le _, rfl, rfl, hidi rfl, hidi (by simp), ownFs_nil _ _ _, Below.refl _ _⟩
  case round =>
    clear d0 d1 d2 d3 d4
    obtain ⟨k, es, uo, uc, hk, rfl, rfl, hek, hem, hown, hB⟩ := hrel
    obtain ⟨d0, d1, d2, d3, d4⟩ := hc.out.later hB (by omega)
    rw [Nat.zero_add] at d1 d2 d3 d4
    have hW := hB0.trans (hB.mono hB0.size)
    by_cases hlt2 : k < f.args.length
    · obtain ⟨b, off, rfl, hbb, hat⟩ := FArgsP.at hA (by omega)
      obtain ⟨sl, hcy, hF⟩ := hat k hlt2
      have ihk := ih.out _ (List.getElem_mem hlt2)
      have hLk := hidi (canon_take hlt2)
      generalize f.args[k] = y at *
      rw [hL.out] at hLk
      obtain ⟨e0, e1, e2, e3, e4⟩ := hcy.below hW (hP b hbb)
      have j1 : (0 : Int) ≤ k := by omega
      have j2 : (k : Int) < f.args.length := by omega
      have ihk2 := hidi (ihk P (fval y sl) wr (hF.kept hW hP) (fun b h => Nat.lt_of_lt_of_le (hP b h) hW.size))
      clear ihk hat hF
      go_wp2_with fail
      refine ihk2.out.mono ?_
      rintro e w1 ⟨r, rfl, hN, hb1⟩
      obtain ⟨o1, c1, rfl, hf1, hA1⟩ := hN.open
      have hB1 := hB.trans (hb1.mono hB.size)
      have hzw := hB.size
      have hz1 := hb1.size
      have hown1 : OwnFs P W0.heap.size w1 (.slice uo k uc) es := hown.keep hb1.size (fun b hb => hb1.block b (by rcases hb with h | ⟨-, h⟩; exact Nat.lt_of_lt_of_le (hPW b h) hzw; exact h))
      have hNA : FArgsP (Away P W0.heap.size w1 (.slice uo k uc)) w1 (.slice o1 (canonF y).args.length c1) (canonF y).args := hA1.mono fun b hb => by
        rcases hb with hb | ⟨h1, h2⟩
        · exact .inl hb
        · exact .inr ⟨by omega, h2, fun e => by have := (hown.lt b e).2; omega⟩
      have hownr := hown1.1
      rw [hek.out] at hownr
      have hkl : k ≤ 1000 := by omega
      obtain ⟨i0, hi, hi0, hi1, hi2⟩ := info_parts Tryz.fmInfo
      have hown1' := hidi hown1
      have hNA' := hidi hNA
      have hownlt := hidi hown.lt
      have hPW' := hidi hPW
      clear ihk2 hv hA hcy e0 e1 e2 e3 e4 d0 d1 d2 d3 d4 hown hNA hown1 hA1 hN hPW hP
      go_wp2_with (at_builtin; refine wpList_append_lies _ rfl (.tmp 12) (.tmp 19) 22 rfl W0.heap.size 24 i0 (.agg #[.int .i64 0, .string ⟨#[]⟩, .int .i64 0, .int .i64 0, .slice none 0 0]) 5 64 Tryz.underlying22 hi hi0 hi1 hi2 rfl (by decide) (.slice uo k uc) k (fmCells es) rfl (hownr.alloc _) ⟨w1.heap.size, 0, none⟩ 1 1 [.int .i64 (canonF y).op, .string (canonF y).name, .int .i64 (canonF y).val, .int .i64 (canonF y).bound, .slice o1 (canonF y).args.length c1] rfl rfl ?c1 ?c2 (by decide) ?c3 ?c4 ?c5 (w1.heap.size + 1) ?c6 ?_)
      case c1 => exact World.news_of_block (heap_alloc_new w1 _)
      case c2 => simp [Value.oneCell']
      case c3 => unfold maxLen; omega
      case c4 => omega
      case c5 => simp; omega
      case c6 => simp
      intro gg cap w2 hown2 hgrow hat hlt3
      have hB12 : Below w1.heap.size w1 (w1.alloc (.cells #[.int .i64 (canonF y).op, .string (canonF y).name, .int .i64 (canonF y).val, .int .i64 (canonF y).bound, .slice o1 (canonF y).args.length c1] 24)) := below_box w1 _
      have hsn : OwnFs P W0.heap.size w2 (.slice (some ⟨gg, 0, none⟩) (k + 1) cap) (es ++ [(canonF y, .slice o1 (canonF y).args.length c1)]) := by
        refine hown1'.out.snoc hf1 hNA'.out hPW'.out (by omega) hB12 (by rw [hek.out]; exact hown2) hgrow ?_
        rcases hat with h | h
        · exact .inl h.symm
        · exact .inr ⟨gg, rfl, by omega⟩
      have hB2 : Below W0.heap.size W0 w2 := by
        have h12 := hB1.trans (hB12.mono (Nat.le_trans hzw hz1))
        refine ⟨hgrow.os.trans h12.os, hgrow.tape.trans h12.tape, hgrow.output.trans h12.output, Nat.le_trans h12.size hgrow.size, fun b hb => ?_⟩
        exact (hgrow.block b (Nat.lt_of_lt_of_le hb h12.size) (fun e => by have := (hownlt.out _ e.symm).1; omega)).trans (h12.block b hb)
      have r8 : Hid ((es ++ [(canonF y, Value.slice o1 (canonF y).args.length c1)]).map Prod.fst = L.take (k + 1)) := by
        unfold Hid
        rw [hLk.out, List.map_append, hem.out]
        rfl
      have r10 : Hid ((es ++ [(canonF y, Value.slice o1 (canonF y).args.length c1)]).length = k + 1) := by unfold Hid; rw [List.length_append, hek.out]; rfl
      have hsn' := hidi hsn
      have hB2' := hidi hB2
      clear hsn hB2 hown2 hgrow hat hownr hB12
      go_wp2_with fail
      go_roundw
      case rel => exact ⟨k + 1, _, some ⟨gg, 0, none⟩, cap, by omega, rfl, by go_num, r10, r8, hsn'.out, hB2'.out⟩
      case measure => simp [intOf]; omega
    · obtain rfl : k = f.args.length := by omega
      have hzw := hB.size
      have hargs : Hid (FArgsP (fun b => P b ∨ (W0.heap.size ≤ b ∧ b < wr.heap.size)) wr (.slice uo f.args.length uc) L) := by
        have h1 := hown.args
        rw [hem.out, List.take_of_length_le (by rw [← hL.out]; simp)] at h1
        exact h1
      have hPl : ∀ b, (fun b => P b ∨ (W0.heap.size ≤ b ∧ b < wr.heap.size)) b → b < wr.heap.size := fun b hb => by rcases hb with h | h; exact Nat.lt_of_lt_of_le (hPW b h) hzw; exact h.2
      have hhr : Hid (Res5 wr (w.heap.size + 1)) := by obtain ⟨a1, a2, a3, a4, a5, hr⟩ := hres.out; exact ⟨a1, a2, a3, a4, a5, (hB.block _ (by omega)).trans hr⟩
      clear ih
      have hzw3 := hW.size
      have hPm : ∀ b, P b → b ≠ w.heap.size + 1 := fun b h => by have := hP b h; omega
      have hPw : ∀ b, P b → b ≠ w.heap.size := fun b h => by have := hP b h; omega
      have hz00 := (fm2_box hW0).2
      have hh : FArgsP (fun b => P b ∨ (W0.heap.size ≤ b ∧ b < wr.heap.size)) wr (.slice uo L.length uc) L := by rw [hLl.out]; exact hargs.out
      by_cases h5 : f.op = 5 ∨ f.op = 6
      have hca : Hid (canonF f = gatheredF f.op L) := hidi (hgth.out h5)
      have ho : gath f.op := h5
      have hgn := hidi (hfl.out h5)
      rcases h5 with h5 | h5
      have b5 := op_is h5
      clear h5
      have hE : Hid (canonF f = gatheredF f.op L) := hidi (by rw [hca.out])
      have tk := Tk.mk 1
      rotate_left
      have b5 := op_ne (k := 5) (a := f.op) (by omega)
      have b6 := op_is h5
      clear h5
      have hE : Hid (canonF f = gatheredF f.op L) := hidi (by rw [hca.out])
      have tk := Tk.mk 1
      rotate_left
      rw [canonN, if_neg h5, hL.out] at hcn
      have b5 := op_ne (k := 5) (a := f.op) (by omega)
      have b6 := op_ne (k := 6) (a := f.op) (by omega)
      by_cases h8 : f.op = 8
      rw [if_pos h8] at hcn
      obtain ⟨x, t, hx⟩ : ∃ x t, Hid (x :: t = L) := by
        cases L with
        | nil => exact absurd (List.length_eq_zero_iff.1 hLl.out.symm) (har.1 h8)
        | cons x t => exact ⟨x, t, hidi rfl⟩
      rw [show L.headD (mkOp 0 []) = x by rw [← hx.out]; rfl] at hcn
      have hca := hidi hcn
      have hLn : Hid (f.args.length = t.length + 1) := by unfold Hid; rw [← hLl.out, ← hx.out]; simp
      have b8 := op_is h8
      clear h8
      obtain ⟨gb, go, rfl, hgb, hgt⟩ := FArgsP.at hh (by rw [← hx.out]; simp)
      have hgl := hPl gb hgb
      obtain ⟨sl, hcy, hF⟩ := hgt 0 (by rw [← hx.out]; simp)
      simp only [← hx.out, List.getElem_cons_zero] at hcy hF
      rw [Nat.zero_mul, Nat.add_zero] at hcy
      obtain ⟨o1, c1, hfv, -, -⟩ := hF.open
      obtain rfl : sl = .slice o1 x.args.length c1 := by simpa [fval] using hfv
      obtain ⟨e0, e1, e2, e3, e4⟩ := hcy
      have j1 : (0 : Int) < f.args.length := by rw [hLn.out]; omega
      have hfx := hidi hF
      clear hcn hgt hF hfv
      cases q1 : (x.op == 1)
      cases q2 : (x.op == 2)
      have hE : Hid (canonF f = .mk f.op f.name f.val f.bound L) := hidi (by rw [hca.out, if_neg (by unfold constF; rw [q1, q2]; decide)])
      have tk := Tk.mk 3
      rotate_left
      have hE : Hid (canonF f = x) := hidi (by rw [hca.out, if_pos (by unfold constF; rw [q1, q2]; decide)])
      have tk := Tk.mk 2
      have hfin := hfx
      rotate_left
      have hE : Hid (canonF f = x) := hidi (by rw [hca.out, if_pos (by unfold constF; rw [q1]; rfl)])
      have tk := Tk.mk 2
      have hfin := hfx
      rotate_left
      rw [if_neg h8] at hcn
      have b8 := op_ne h8
      by_cases h9 : f.op = 9
      rw [if_pos h9] at hcn
      obtain ⟨x, z, t, hx0⟩ := two_args (l := L) (by rw [hLl.out]; exact har.2 (.inl h9))
      have hx := hidi hx0
      rw [show L.headD (mkOp 0 []) = x by rw [← hx.out]; rfl, show L.getD 1 (mkOp 0 []) = z by rw [← hx.out]; rfl] at hcn
      have hca := hidi hcn
      have hLn : Hid (f.args.length = t.length + 2) := by unfold Hid; rw [← hLl.out, ← hx.out]; simp
      have b9 := op_is h9
      clear h9
      obtain ⟨gb, go, rfl, hgb, hgt⟩ := FArgsP.at hh (by rw [← hx.out]; simp)
      have hgl := hPl gb hgb
      obtain ⟨sl2, hcy2, hF2⟩ := hgt 1 (by rw [← hx.out]; simp)
      simp only [← hx.out, List.getElem_cons_succ, List.getElem_cons_zero] at hcy2 hF2
      rw [Nat.one_mul] at hcy2
      obtain ⟨o2, c2, hfv2, -, -⟩ := hF2.open
      obtain rfl : sl2 = .slice o2 z.args.length c2 := by simpa [fval] using hfv2
      obtain ⟨g0, g1, g2, g3, g4⟩ := hcy2
      have j2 : (1 : Int) < f.args.length := by rw [hLn.out]; omega
      obtain ⟨sl, hcy, hF⟩ := hgt 0 (by rw [← hx.out]; simp)
      simp only [← hx.out, List.getElem_cons_zero] at hcy hF
      rw [Nat.zero_mul, Nat.add_zero] at hcy
      obtain ⟨o1, c1, hfv, -, -⟩ := hF.open
      obtain rfl : sl = .slice o1 x.args.length c1 := by simpa [fval] using hfv
      obtain ⟨e0, e1, e2, e3, e4⟩ := hcy
      have j1 : (0 : Int) < f.args.length := by rw [hLn.out]; omega
      have hfz := hidi hF2
      clear hcn hgt hF hfv hF2 hfv2 hx0
      cases q1 : (z.op == 1)
      cases q2 : (z.op == 2)
      cases q3 : (x.op == 2)
      have hE : Hid (canonF f = .mk f.op f.name f.val f.bound L) := hidi (by rw [hca.out, if_neg (by unfold constF; rw [q1, q2]; simpa using q3)])
      have tk := Tk.mk 3
      rotate_left
      have hE : Hid (canonF f = z) := hidi (by rw [hca.out, if_pos (.inr (by simpa using q3))])
      have tk := Tk.mk 2
      have hfin := hfz
      rotate_left
      have hE : Hid (canonF f = z) := hidi (by rw [hca.out, if_pos (.inl (by unfold constF; rw [q1, q2]; decide))])
      have tk := Tk.mk 2
      have hfin := hfz
      rotate_left
      have hE : Hid (canonF f = z) := hidi (by rw [hca.out, if_pos (.inl (by unfold constF; rw [q1]; rfl))])
      have tk := Tk.mk 2
      have hfin := hfz
      rotate_left
      rw [if_neg h9] at hcn
      have b9 := op_ne h9
      by_cases h10 : f.op = 10
      rw [if_pos h10] at hcn
      obtain ⟨x, z, t, hx0⟩ := two_args (l := L) (by rw [hLl.out]; exact har.2 (.inr h10))
      have hx := hidi hx0
      rw [show L.headD (mkOp 0 []) = x by rw [← hx.out]; rfl, show L.getD 1 (mkOp 0 []) = z by rw [← hx.out]; rfl] at hcn
      have hca := hidi hcn
      have hLn : Hid (f.args.length = t.length + 2) := by unfold Hid; rw [← hLl.out, ← hx.out]; simp
      have b10 := op_is h10
      clear h10
      obtain ⟨gb, go, rfl, hgb, hgt⟩ := FArgsP.at hh (by rw [← hx.out]; simp)
      have hgl := hPl gb hgb
      obtain ⟨sl2, hcy2, hF2⟩ := hgt 1 (by rw [← hx.out]; simp)
      simp only [← hx.out, List.getElem_cons_succ, List.getElem_cons_zero] at hcy2 hF2
      rw [Nat.one_mul] at hcy2
      obtain ⟨o2, c2, hfv2, -, -⟩ := hF2.open
      obtain rfl : sl2 = .slice o2 z.args.length c2 := by simpa [fval] using hfv2
      obtain ⟨g0, g1, g2, g3, g4⟩ := hcy2
      have j2 : (1 : Int) < f.args.length := by rw [hLn.out]; omega
      obtain ⟨sl, hcy, hF⟩ := hgt 0 (by rw [← hx.out]; simp)
      simp only [← hx.out, List.getElem_cons_zero] at hcy hF
      rw [Nat.zero_mul, Nat.add_zero] at hcy
      obtain ⟨o1, c1, hfv, -, -⟩ := hF.open
      obtain rfl : sl = .slice o1 x.args.length c1 := by simpa [fval] using hfv
      obtain ⟨e0, e1, e2, e3, e4⟩ := hcy
      have j1 : (0 : Int) < f.args.length := by rw [hLn.out]; omega
      have hfz := hidi hF2
      clear hcn hgt hF hfv hF2 hfv2 hx0
      cases q1 : (z.op == 1)
      cases q2 : (z.op == 2)
      cases q3 : (x.op == 1)
      have hE : Hid (canonF f = .mk f.op f.name f.val f.bound L) := hidi (by rw [hca.out, if_neg (by unfold constF; rw [q1, q2]; simpa using q3)])
      have tk := Tk.mk 3
      rotate_left
      have hE : Hid (canonF f = z) := hidi (by rw [hca.out, if_pos (.inr (by simpa using q3))])
      have tk := Tk.mk 2
      have hfin := hfz
      rotate_left
      have hE : Hid (canonF f = z) := hidi (by rw [hca.out, if_pos (.inl (by unfold constF; rw [q1, q2]; decide))])
      have tk := Tk.mk 2
      have hfin := hfz
      rotate_left
      have hE : Hid (canonF f = z) := hidi (by rw [hca.out, if_pos (.inl (by unfold constF; rw [q1]; rfl))])
      have tk := Tk.mk 2
      have hfin := hfz
      rotate_left
      rw [if_neg h10] at hcn
      have b10 := op_ne h10
      have hca := hidi hcn
      clear hcn
      have hE : Hid (canonF f = .mk f.op f.name f.val f.bound L) := hidi (by rw [hca.out])
      have tk := Tk.mk 3
      rotate_left
      all_goals clear hgth hfl har hLl
      all_goals first
      | have _t : Tk 1 := tk
        go_wp2_with fail
        refine (refgathered_any f.op ho _ _ L wr hgn.out.1 hgn.out.2 hargs.out hPl).mono ?_
        rintro e w1 ⟨r, rfl, hN, hb1⟩
        obtain ⟨o1, c1, rfl, hf1, hA1⟩ := hN.open
        have hWb := hidi (hW.trans (hb1.mono hW.size))
        have hr1 := hidi (hhr.out.below hb1)
        have hfin := hidi hN
        have hz1 := hb1.size
        obtain ⟨a1, a2, a3, a4, a5, ⟨z0, z1, z2, z3, z4⟩, y0, y1, y2, y3, y4⟩ := hr1.out.cells
        clear hA1 hN hown hargs hv hA d0 d1 d2 d3 d4 hhr
        go_wp2_with fail
        (try simp only [Exit.inBlock, Exit.then])
        refine bodyPost_ret (results_cell_row rfl _ _ (w.heap.size + 1) 24 _ (0, 0) _ rfl (hr1.out.set _ _ _ _ _) Tryz.underlying24 rfl fmSize) rfl ?_
        refine ⟨_, rfl, ?_⟩
        rw [hE.out]
        exact fm_put (by omega) hWb.out hfin.out (fun b hb => by rcases hb with (hb | hb) | hb; exact hPm b hb; all_goals omega) (fun b hb => by rcases hb with (hb | hb) | hb; exact .inl hb; all_goals exact .inr ⟨by omega, by omega⟩) _ _ _ _ _
      | have _t : Tk 2 := tk
        have hWb := hidi hW
        have hr1 := hhr
        obtain ⟨a1, a2, a3, a4, a5, ⟨z0, z1, z2, z3, z4⟩, y0, y1, y2, y3, y4⟩ := hr1.out.cells
        clear hown hargs hv hA hhr hh
        go_wp2_with fail
        (try simp only [Exit.inBlock, Exit.then])
        refine bodyPost_ret (results_cell_row rfl _ _ (w.heap.size + 1) 24 _ (0, 0) _ rfl (hr1.out.set _ _ _ _ _) Tryz.underlying24 rfl fmSize) rfl ?_
        refine ⟨_, rfl, ?_⟩
        rw [hE.out]
        exact fm_put (by omega) hWb.out hfin.out (fun b hb => by rcases hb with hb | hb; exact hPm b hb; omega) (fun b hb => by rcases hb with hb | hb; exact .inl hb; exact .inr ⟨by omega, hb.2⟩) _ _ _ _ _
      | have _t : Tk 3 := tk
        obtain ⟨V, hV, hWb, hr1, hzV, hf0, ⟨m0, m1, m2, m3, m4⟩, ⟨x0, x1, x2, x3, x4⟩, a1, a2, a3, a4, a5, ⟨z0, z1, z2, z3, z4⟩, y0, y1, y2, y3, y4⟩ := cn_store hW0 hB hW hhr.out hfit hargs.out (fun b hb => by rcases hb with hb | hb; exact (hPw b hb); omega)
        have hfin := hidi hf0
        clear hown hv hA hhr hf0 hargs hh
        go_wp2_with fail
        rw [hV.out]
        (try simp only [Exit.inBlock, Exit.then])
        refine bodyPost_ret (results_cell_row rfl _ _ (w.heap.size + 1) 24 _ (0, 0) _ rfl (hr1.out.set _ _ _ _ _) Tryz.underlying24 rfl fmSize) rfl ?_
        refine ⟨_, rfl, ?_⟩
        rw [hE.out]
        exact fm_put (by omega) hWb.out hfin.out (fun b hb => by rcases hb with hb | hb; exact hPm b hb; omega) (fun b hb => by rcases hb with hb | hb; exact .inl hb; exact .inr ⟨by omega, by omega⟩) _ _ _ _ _
theorem refcanon_any (f : Fm) : NK f → f.nodes ≤ 1000 → RefCanon f := by
  induction f using Fm.ind with
  | h f ih =>
    intro hk hn P v w hv hP
    have ih' : Hid (∀ g ∈ f.args, RefCanon g) := hidi fun g hg => ih g hg (hk.arg hg) (Nat.le_trans (arg_nodes hg) hn)
    have hnl : Fm.nodesL f.args ≤ 1000 := by rw [f.nodes_eq] at hn; omega
    have hall : ∀ x ∈ f.args, NK x ∧ x.nodes ≤ 1000000 := fun x hx => ⟨hk.arg hx, by have := arg_nodes hx; omega⟩
    have fl := flat_len (o := f.op) fun x hx => (hall x hx).1
    exact refcn_any f ih' (Nat.le_trans (len_nodesL _) hnl) (f.args.map canonF) (hidi rfl) (canonF_eq f) (nodeB_arity hk.node) (hidi (List.length_map ..)) (hidi fun h5 => by rw [canonF_eq, canonN, if_pos h5, gathered_canon h5 hall])
      (hidi fun h5 => ⟨by omega, fun x hx h4 => ((flat_canon h5 hall x hx).2 h4).2⟩) P v w hv hP
theorem canon_ok (g : Fm) (h : looseB g = true) : RefCanon g := refcanon_any g (loose_NK h) (by have := (loose_parts.1 h).1; omega)
theorem refCanonF_eq (f : Fm) : refCanonF f = canonTop f := by
  unfold refCanonF canonTop
  cases q : looseB f
  · rfl
  · have := loose_canonF q
    unfold checkedF
    rw [this]; rfl
theorem refcanontop_eq (P : Nat → Prop) (v : Value) (f : Fm) (w : World) (hv : FAtP P w v f) (hP : ∀ b, P b → b < w.heap.size) :
    Calls Tryz.prog 36 #[v] w fun e w' => ∃ r, e = .returned r ∧ FAtP (NewP P w w') w' r (canonTop f) ∧ Below w.heap.size w w' := by
  rw [← refCanonF_eq]
  exact refcanontop_any P v f (canon_ok f) w hv hP
theorem combine_ref {o : Int} (ho : gath o) {l : List Fm} (h : l.all looseB = true) : combineF o l = checkedF (gatheredF o (l.map canonF)) := by
  rw [gathered_canon ho fun x hx => ⟨loose_NK (List.all_eq_true.1 h x hx), by have := (loose_parts.1 (List.all_eq_true.1 h x hx)).1; omega⟩]
  unfold combineF checkedF
  rw [if_pos h]
theorem flat_asks {o : Int} (ho : gath o) {l : List Fm} (h : l.all looseB = true) (hn : Fm.nodesL l ≤ 2000) : (flatF o (l.map canonF)).length ≤ 2000 ∧ ∀ x ∈ flatF o (l.map canonF), x.op = 4 → 0 < x.args.length :=
  ⟨Nat.le_trans (flat_len fun x hx => loose_NK (List.all_eq_true.1 h x hx)) hn, fun x hx h4 => ((flat_canon ho (fun x hx => ⟨loose_NK (List.all_eq_true.1 h x hx), by have := (loose_parts.1 (List.all_eq_true.1 h x hx)).1; omega⟩) x hx).2 h4).2⟩
theorem refand_any (P : Nat → Prop) (v : Value) (l : List Fm) (w : World) (hl9 : l.length ≤ 1000) (hnl : Fm.nodesL l ≤ 2000) (hv : FArgsP P w v l) (hP : ∀ b, P b → b < w.heap.size) :
    Calls Tryz.prog 38 #[v] w fun e w' => ∃ r, e = .returned r ∧ FAtP (NewP P w w') w' r (combineF 5 l) ∧ Below w.heap.size w w' := by
  have hPR : ∀ b, P b → b ≠ w.heap.size := fun b h => by have := hP b h; omega
  obtain ⟨W0, hW0, hB0, hz0, hres⟩ := res_open w
  have hP0 : ∀ b, P b → b < W0.heap.size := fun b h => by have := hP b h; omega
  obtain ⟨o, c, rfl⟩ := hv.shape
  have hall := hidi (refall_any canon_ok P _ l W0 hl9 (hv.kept hB0 hP) hP0)
  have hask : Hid (l.all looseB = true → (flatF 5 (l.map canonF)).length ≤ 2000 ∧ ∀ x ∈ flatF 5 (l.map canonF), x.op = 4 → 0 < x.args.length) := hidi fun h => flat_asks (by unfold gath; decide) h hnl
  have hres0 : Hid (l.all looseB = false → combineF 5 l = zeroF) := hidi fun h => by unfold combineF; rw [h]; rfl
  have hres1 : Hid (l.all looseB = true → combineF 5 l = checkedF (gatheredF 5 (l.map canonF))) := hidi fun h => combine_ref (by unfold gath; decide) h
  obtain ⟨L, hL⟩ : ∃ L, Hid (l.map canonF = L) := ⟨_, hidi rfl⟩
  obtain ⟨lb, hlb⟩ : ∃ lb, Hid (l.all looseB = lb) := ⟨_, hidi rfl⟩
  obtain ⟨J, hJ⟩ : ∃ J, Hid (combineF 5 l = J) := ⟨_, hidi rfl⟩
  rw [hL.out, hlb.out] at hall hask
  rw [hlb.out, hJ.out] at hres0
  rw [hL.out, hlb.out, hJ.out] at hres1
  rw [hJ.out]
  clear hv hnl
  go_enter Tryz.func38, Tryz.ntmps38
  go_wp2_with fail
  rw [hW0.out]
  refine hall.out.mono ?_
  rintro e w1 ⟨r, rfl, hr, hb1⟩
  have hz1 := hb1.size
  have hAB := hB0.trans (hb1.mono (by omega))
  have hr1 := hidi (hres.out.below hb1)
  have hr' := hidi hr
  clear hr hall
  cases lb
  · have hC := hidi (hres0.out rfl)
    obtain ⟨a1, a2, a3, a4, a5, ⟨z0, z1, z2, z3, z4⟩, y0, y1, y2, y3, y4⟩ := hr1.out.cells
    go_wp2_with fail
    (try simp only [Exit.inBlock, Exit.then])
    refine bodyPost_ret (results_cell_row rfl _ _ w.heap.size 24 _ (0, 0) _ rfl (hr1.out.set _ _ _ _ _) Tryz.underlying24 rfl fmSize) rfl ?_
    rw [hC.out]
    exact ⟨_, rfl, fm_put (Nat.le_refl _) hAB (.mk i64_0 size_0 i64_0 i64_0 (.nil _ _)) hPR (fun b h => .inl h) _ _ _ _ _⟩
  · have hC := hidi (hres1.out rfl)
    have hrr := hr'.out rfl
    obtain ⟨o1, c1, rfl⟩ := hrr.shape
    have hPn : ∀ b, NewP P W0 w1 b → b < w1.heap.size := fun b hb => by
      rcases hb with hb | hb
      · exact Nat.lt_of_lt_of_le (hP0 b hb) hz1
      · exact hb.2
    have hcall := hidi (refgathered_any 5 (by unfold gath; decide) (NewP P W0 w1) _ L w1 (hask.out rfl).1 (hask.out rfl).2 hrr hPn)
    clear hrr hr'
    go_wp2_with fail
    refine hcall.out.mono ?_
    rintro e w2 ⟨r2, rfl, hN, hb2⟩
    have hr2 := hidi (hr1.out.below hb2)
    have hAB2 := hAB.trans (hb2.mono hAB.size)
    have hz2 := hb2.size
    have hchk := hidi (refchecked_any (NewP (NewP P W0 w1) w1 w2) r2 _ w2 hN (fun b hb => by
      rcases hb with hb | hb
      · exact Nat.lt_of_lt_of_le (hPn b hb) hz2
      · exact hb.2))
    clear hN hcall hPn
    go_wp2_with fail
    refine hchk.out.mono ?_
    rintro e w3 ⟨r3, rfl, hN3, hb3⟩
    obtain ⟨o3, c3, rfl, hf3, hA3⟩ := hN3.open
    have hr3 := hidi (hr2.out.below hb3)
    have hAB3 := hidi (hAB2.trans (hb3.mono hAB2.size))
    have hz3 := hb3.size
    obtain ⟨a1, a2, a3, a4, a5, ⟨z0, z1, z2, z3, z4⟩, y0, y1, y2, y3, y4⟩ := hr3.out.cells
    have hN3' := hidi hN3
    clear hN3 hA3 hchk
    go_wp2_with fail
    (try simp only [Exit.inBlock, Exit.then])
    refine bodyPost_ret (results_cell_row rfl _ _ w.heap.size 24 _ (0, 0) _ rfl (hr3.out.set _ _ _ _ _) Tryz.underlying24 rfl fmSize) rfl ?_
    rw [hC.out]
    refine ⟨_, rfl, ?_⟩
    exact fm_put (Nat.le_refl _) hAB3.out hN3'.out (fun b hb => by
      rcases hb with ((hb | hb) | hb) | hb
      · exact hPR b hb
      · omega
      · omega
      · omega) (fun b hb => by
      rcases hb with ((hb | hb) | hb) | hb
      · exact .inl hb
      · exact .inr ⟨by omega, by omega⟩
      · exact .inr ⟨by omega, by omega⟩
      · exact .inr ⟨by omega, by omega⟩) _ _ _ _ _
theorem refor_any (P : Nat → Prop) (v : Value) (l : List Fm) (w : World) (hl9 : l.length ≤ 1000) (hnl : Fm.nodesL l ≤ 2000) (hv : FArgsP P w v l) (hP : ∀ b, P b → b < w.heap.size) :
    Calls Tryz.prog 40 #[v] w fun e w' => ∃ r, e = .returned r ∧ FAtP (NewP P w w') w' r (combineF 6 l) ∧ Below w.heap.size w w' := by
  have hPR : ∀ b, P b → b ≠ w.heap.size := fun b h => by have := hP b h; omega
  obtain ⟨W0, hW0, hB0, hz0, hres⟩ := res_open w
  have hP0 : ∀ b, P b → b < W0.heap.size := fun b h => by have := hP b h; omega
  obtain ⟨o, c, rfl⟩ := hv.shape
  have hall := hidi (refall_any canon_ok P _ l W0 hl9 (hv.kept hB0 hP) hP0)
  have hask : Hid (l.all looseB = true → (flatF 6 (l.map canonF)).length ≤ 2000 ∧ ∀ x ∈ flatF 6 (l.map canonF), x.op = 4 → 0 < x.args.length) := hidi fun h => flat_asks (by unfold gath; decide) h hnl
  have hres0 : Hid (l.all looseB = false → combineF 6 l = zeroF) := hidi fun h => by unfold combineF; rw [h]; rfl
  have hres1 : Hid (l.all looseB = true → combineF 6 l = checkedF (gatheredF 6 (l.map canonF))) := hidi fun h => combine_ref (by unfold gath; decide) h
  obtain ⟨L, hL⟩ : ∃ L, Hid (l.map canonF = L) := ⟨_, hidi rfl⟩
  obtain ⟨lb, hlb⟩ : ∃ lb, Hid (l.all looseB = lb) := ⟨_, hidi rfl⟩
  obtain ⟨J, hJ⟩ : ∃ J, Hid (combineF 6 l = J) := ⟨_, hidi rfl⟩
  rw [hL.out, hlb.out] at hall hask
  rw [hlb.out, hJ.out] at hres0
  rw [hL.out, hlb.out, hJ.out] at hres1
  rw [hJ.out]
  clear hv hnl
  go_enter Tryz.func40, Tryz.ntmps40
  go_wp2_with fail
  rw [hW0.out]
  refine hall.out.mono ?_
  rintro e w1 ⟨r, rfl, hr, hb1⟩
  have hz1 := hb1.size
  have hAB := hB0.trans (hb1.mono (by omega))
  have hr1 := hidi (hres.out.below hb1)
  have hr' := hidi hr
  clear hr hall
  cases lb
  · have hC := hidi (hres0.out rfl)
    obtain ⟨a1, a2, a3, a4, a5, ⟨z0, z1, z2, z3, z4⟩, y0, y1, y2, y3, y4⟩ := hr1.out.cells
    go_wp2_with fail
    (try simp only [Exit.inBlock, Exit.then])
    refine bodyPost_ret (results_cell_row rfl _ _ w.heap.size 24 _ (0, 0) _ rfl (hr1.out.set _ _ _ _ _) Tryz.underlying24 rfl fmSize) rfl ?_
    rw [hC.out]
    exact ⟨_, rfl, fm_put (Nat.le_refl _) hAB (.mk i64_0 size_0 i64_0 i64_0 (.nil _ _)) hPR (fun b h => .inl h) _ _ _ _ _⟩
  · have hC := hidi (hres1.out rfl)
    have hrr := hr'.out rfl
    obtain ⟨o1, c1, rfl⟩ := hrr.shape
    have hPn : ∀ b, NewP P W0 w1 b → b < w1.heap.size := fun b hb => by
      rcases hb with hb | hb
      · exact Nat.lt_of_lt_of_le (hP0 b hb) hz1
      · exact hb.2
    have hcall := hidi (refgathered_any 6 (by unfold gath; decide) (NewP P W0 w1) _ L w1 (hask.out rfl).1 (hask.out rfl).2 hrr hPn)
    clear hrr hr'
    go_wp2_with fail
    refine hcall.out.mono ?_
    rintro e w2 ⟨r2, rfl, hN, hb2⟩
    have hr2 := hidi (hr1.out.below hb2)
    have hAB2 := hAB.trans (hb2.mono hAB.size)
    have hz2 := hb2.size
    have hchk := hidi (refchecked_any (NewP (NewP P W0 w1) w1 w2) r2 _ w2 hN (fun b hb => by
      rcases hb with hb | hb
      · exact Nat.lt_of_lt_of_le (hPn b hb) hz2
      · exact hb.2))
    clear hN hcall hPn
    go_wp2_with fail
    refine hchk.out.mono ?_
    rintro e w3 ⟨r3, rfl, hN3, hb3⟩
    obtain ⟨o3, c3, rfl, hf3, hA3⟩ := hN3.open
    have hr3 := hidi (hr2.out.below hb3)
    have hAB3 := hidi (hAB2.trans (hb3.mono hAB2.size))
    have hz3 := hb3.size
    obtain ⟨a1, a2, a3, a4, a5, ⟨z0, z1, z2, z3, z4⟩, y0, y1, y2, y3, y4⟩ := hr3.out.cells
    have hN3' := hidi hN3
    clear hN3 hA3 hchk
    go_wp2_with fail
    (try simp only [Exit.inBlock, Exit.then])
    refine bodyPost_ret (results_cell_row rfl _ _ w.heap.size 24 _ (0, 0) _ rfl (hr3.out.set _ _ _ _ _) Tryz.underlying24 rfl fmSize) rfl ?_
    rw [hC.out]
    refine ⟨_, rfl, ?_⟩
    exact fm_put (Nat.le_refl _) hAB3.out hN3'.out (fun b hb => by
      rcases hb with ((hb | hb) | hb) | hb
      · exact hPR b hb
      · omega
      · omega
      · omega) (fun b hb => by
      rcases hb with ((hb | hb) | hb) | hb
      · exact .inl hb
      · exact .inr ⟨by omega, by omega⟩
      · exact .inr ⟨by omega, by omega⟩
      · exact .inr ⟨by omega, by omega⟩) _ _ _ _ _

end Go.Proofs.YtbnnjbfbifihaaaGreatDoor
