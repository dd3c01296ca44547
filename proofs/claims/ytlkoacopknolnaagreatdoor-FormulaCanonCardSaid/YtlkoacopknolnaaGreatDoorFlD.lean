/-
  The contract of the law's reversed.
-/
import Derived.Test.YtlkoacopknolnaaGreatDoorFlC
namespace Go.Proofs.YtlkoacopknolnaaGreatDoor
open Go.RowKit

/-- a row of one's own, as a row -/
theorem own_row {P : Nat → Prop} {base : Nat} {w : World} {uo : Option Addr} {uc : Nat} {es : List (Fm × Value)} (h : OwnFs P base w (.slice uo es.length uc) es) (h0 : 0 < es.length) (hP : ∀ b, P b → b < base) (hz : base ≤ w.heap.size) :
    ∃ gb, uo = some ⟨gb, 0, none⟩ ∧ base ≤ gb ∧ gb < w.heap.size ∧ es.length ≤ uc ∧ uc ≤ 9223372036854775807 ∧ RowF (fun b => (P b ∨ base ≤ b) ∧ b < w.heap.size ∧ b ≠ gb) w gb es := by
  have h1 := h.1
  rcases h.1.2 with ⟨e, h2⟩ | ⟨g, cap, cur, heq, hbg, hg, hle, hcap, _⟩
  · omega
  · obtain ⟨rfl, rfl⟩ : uo = some ⟨g, 0, none⟩ ∧ uc = cap := by injection heq with e1 e2 e3; exact ⟨e1, e3⟩
    refine ⟨g, rfl, hbg, (Array.getElem?_eq_some_iff.1 hg).1, hle, by unfold maxLen at hcap; omega, fun k hk => ?_, fun j hj => by simp [World.frozen?, hg], fun e he => ⟨(h.2 e he).1, (h.2 e he).2.mono fun b hb => ?_⟩⟩
    · obtain ⟨q1, q2, q3, q4, q5⟩ := fmCells_at es k hk
      have a1 := h1.cells rfl _ _ q1
      have a2 := h1.cells rfl _ _ q2
      have a3 := h1.cells rfl _ _ q3
      have a4 := h1.cells rfl _ _ q4
      have a5 := h1.cells rfl _ _ q5
      rw [Addr.add_lit, Nat.zero_add] at a1 a2 a3 a4 a5
      exact ⟨a1, a2, a3, a4, a5⟩
    · rcases hb with hb | ⟨hb1, hb2, hb3⟩
      · have := hP b hb
        exact ⟨.inl hb, by omega, by omega⟩
      · exact ⟨.inr hb1, hb2, fun e => hb3 (by rw [e]; rfl)⟩

theorem rev_open (w : World) (a1 a2 a3 a4 a5 : Value) : ∃ V0, Hid (((w.alloc (.cells #[a1, a2, a3, a4, a5] 24)).alloc (.cells #[.int .i64 0, .string ⟨#[]⟩, .int .i64 0, .int .i64 0, .slice none 0 0] 24)).alloc (.cells #[a1, a2, a3, a4, .slice none 0 0] 24) = V0) ∧ Below w.heap.size w V0 ∧ V0.heap.size = w.heap.size + 3 ∧
    Hid (Cells5 V0 w.heap.size 0 a1 a2 a3 a4 a5) ∧ Hid (Res5 V0 (w.heap.size + 1)) ∧ Hid (V0.heap[w.heap.size + 2]? = some (.cells #[a1, a2, a3, a4, .slice none 0 0] 24 (0, 0))) := by
  obtain ⟨W0, h0, hB, hs, hz, hx⟩ := one_open w (.cells #[a1, a2, a3, a4, a5] 24) (.cells #[.int .i64 0, .string ⟨#[]⟩, .int .i64 0, .int .i64 0, .slice none 0 0] 24) (.cells #[a1, a2, a3, a4, .slice none 0 0] 24)
  refine ⟨W0, h0, hB, hs, ?_, ⟨_, _, _, _, _, hz.out⟩, hx⟩
  have h5 := box5 w a1 a2 a3 a4 a5 24
  have hb1 := below_box (w.alloc (.cells #[a1, a2, a3, a4, a5] 24)) (.cells #[.int .i64 0, .string ⟨#[]⟩, .int .i64 0, .int .i64 0, .slice none 0 0] 24)
  have hb2 := below_box ((w.alloc (.cells #[a1, a2, a3, a4, a5] 24)).alloc (.cells #[.int .i64 0, .string ⟨#[]⟩, .int .i64 0, .int .i64 0, .slice none 0 0] 24)) (.cells #[a1, a2, a3, a4, .slice none 0 0] 24)
  unfold Hid
  rw [← h0.out]
  exact (h5.below hb1 (by simp)).below hb2 (by simp; omega)

theorem parts_sizeN {f g : Fm} (hg : g ∈ f.args) : g.nodes ≤ f.nodes := by
  obtain ⟨k, hk, rfl⟩ := List.mem_iff_getElem.1 hg
  have h1 := Fm.nodes_get hk
  rw [Fm.nodes_eq f]
  omega
theorem gath_args {f : Fm} (h : nodesB f = true) (ho : f.op = 5 ∨ f.op = 6) : 0 < f.args.length := by
  have := (nodeB_len (nodesB_self h)).1
  have h5 : fLeast (5 : Int).toNat = 2 := rfl
  have h6 : fLeast (6 : Int).toNat = 2 := rfl
  rcases ho with ho | ho <;> rw [ho] at this <;> omega
theorem nest_set {o : Int} {r : List Fm} {k1 : Nat} {y : Fm} (hl : r.length = k1 + 1) (hy : r[k1]? = some y) : r.set k1 (.mk o ⟨#[]⟩ 0 0 [y, y]) = nestF o r := by
  have hne : r ≠ [] := fun e => by rw [e] at hl; simp at hl
  have e := (List.dropLast_concat_getLast hne).symm
  have hlast : r.getLast hne = y := by
    rw [List.getLast_eq_getElem]
    have h2 : r[k1]? = some r[r.length - 1] := by rw [List.getElem?_eq_getElem (by omega)]; congr 2; omega
    rw [hy] at h2
    exact (Option.some.inj h2).symm
  have hd : r.getLastD zeroF = y := by rw [List.getLastD_eq_getLast?, List.getLast?_eq_some_getLast hne, hlast]; rfl
  unfold nestF
  rw [hd]
  conv => lhs; rw [e, hlast]
  have hdl : r.dropLast.length = k1 := by rw [List.length_dropLast]; omega
  rw [List.set_append_right _ _ (by omega), hdl, Nat.sub_self]
  rfl
theorem rev_take {l : List Fm} {k : Nat} (h : k < l.length) : (l.map revF).reverse.take (k + 1) = (l.map revF).reverse.take k ++ [revF (l[l.length - 1 - k]'(by omega))] := by
  rw [List.take_succ_eq_append_getElem (by simp; exact h)]
  congr 2
  rw [List.getElem_reverse, List.getElem_map]
  congr 2
  simp
theorem map_take1 {l : List Fm} {k : Nat} (h : k < l.length) : (l.map revF).take (k + 1) = (l.map revF).take k ++ [revF l[k]] := by
  rw [List.take_succ_eq_append_getElem (by simp; exact h), List.getElem_map]

set_option maxRecDepth 100000 in
set_option maxHeartbeats 8000000 in
theorem reversed_any (x : Fm) : nodesB x = true → x.nodes ≤ 900 → RevOk x := by
  induction x using Fm.ind with
  | h x ih =>
    intro hn hnn P v w hv hP
    obtain ⟨o, c, rfl, hfit, hA⟩ := FAtP.open hv
    obtain ⟨V0, hV0, hB0, hz0, hc, hres, hrG⟩ := rev_open w (.int .i64 x.op) (.string x.name) (.int .i64 x.val) (.int .i64 x.bound) (.slice o x.args.length c)
    have hlen := hA.len
    have hl900 : x.args.length ≤ 900 := by have := Fm.length_le_nodes x.args; rw [x.nodes_eq] at hnn; omega
    have hchild : ∀ y ∈ x.args, RevOk y := fun y hy => ih y hy (nodesB_arg hn hy) (Nat.le_trans (parts_sizeN hy) hnn)
    have hchild' := hidi hchild
    clear hchild ih hnn
    have hop : I64 x.op := hfit.1
    by_cases ho5 : x.op = 5
    · have hgo : x.op = 5 ∨ x.op = 6 := .inl ho5
      have q5 : (x.op == 5) = true := by rw [ho5]; rfl
      clear ho5
      obtain ⟨L', hL'⟩ : ∃ L' : List Fm, Hid ((x.args.map revF).reverse = L') := ⟨_, hidi rfl⟩
      have hLl : Hid (L'.length = x.args.length) := hidi (by rw [← hL'.out]; simp)
      have hne0 : 0 < x.args.length := gath_args hn hgo
      obtain ⟨d0, d1, d2, d3, d4⟩ := hc.out
      rw [Nat.zero_add] at d1 d2 d3 d4
      go_enter Tryz.func47, Tryz.ntmps47
      go_wp2_with fail
      rw [hV0.out]
      go_loopw [5] (fun i wr => ∃ (k : Nat) (es : List (Fm × Value)) (uo : Option Addr) (uc : Nat), k ≤ x.args.length ∧ i = .int .i64 (k : Int) ∧ Hid (es.length = k) ∧ Hid (es.map Prod.fst = L'.take k) ∧ Hid (wr.heap[w.heap.size + 2]? = some (.cells #[.int .i64 x.op, .string x.name, .int .i64 x.val, .int .i64 x.bound, .slice uo es.length uc] 24 (0, 0))) ∧ OwnFs P (w.heap.size + 3) wr (.slice uo es.length uc) es ∧ Hid (∀ b', b' < w.heap.size + 3 → b' ≠ w.heap.size + 2 → wr.heap[b']? = V0.heap[b']?) ∧ Below w.heap.size w wr ∧ w.heap.size + 3 ≤ wr.heap.size) (fun i _ => x.args.length - (intOf i).toNat)
      case atStart => exact ⟨0, [], none, 0, Nat.zero_le _, rfl, hidi rfl, hidi (by simp), hrG, ownFs_nil _ _ _, hidi fun _ _ _ => rfl, hB0, by omega⟩
      case round =>
        obtain ⟨k, es, uo, uc, hk, rfl, hek, hem, hrg, hown, hbl, hBr, hzr⟩ := hrel
        have hAw := hbl.out w.heap.size (by omega) (by omega)
        replace d0 := (World.cell?_of_block hAw).trans d0
        replace d1 := (World.cell?_of_block hAw).trans d1
        replace d2 := (World.cell?_of_block hAw).trans d2
        replace d3 := (World.cell?_of_block hAw).trans d3
        replace d4 := (World.cell?_of_block hAw).trans d4
        by_cases hlt : k < x.args.length
        · obtain ⟨b, off, rfl, hb, hat⟩ := FArgsP.at hA (by omega)
          obtain ⟨j, hj⟩ : ∃ j, Hid (j = x.args.length - 1 - k) := ⟨_, hidi rfl⟩
          have hjl : j < x.args.length := by have := hj.out; omega
          have hs1 : (x.args.length : Int) - 1 - (k : Int) = (j : Int) := by have := hj.out; omega
          have hLk : Hid (L'.take (k + 1) = L'.take k ++ [revF x.args[j]]) := hidi (by rw [← hL'.out]; have hj' := hj.out; subst hj'; exact rev_take hlt)
          obtain ⟨sl, hcy, hF⟩ := hat j hjl
          have ihj := hchild'.out _ (List.getElem_mem hjl)
          generalize x.args[j] = y at *
          have hcy2 := hcy.below hBr (hP b hb)
          have hF2 : FAtP P _ (fval y sl) y := hF.kept hBr hP
          have hbz := Nat.lt_of_lt_of_le (hP b hb) hBr.size
          have hes := hek.out
          have hes9 : es.length ≤ 1000 := by omega
          clear hat hcy hF
          go_wp2_with fail
          try rw [hs1]
          refine rev_r10 (N := w.heap.size) (base := w.heap.size + 3) _ _ w _ (by rfl) (by rfl) (by rfl) (by rfl) (by omega) (by omega) (by omega) hzr hbz hjl (fun b hb => by have := hP b hb; omega) (fun b hb => by have := hP b hb; omega) hBr d4 hrg hcy2 hF2 ihj hown hes9 ?_
          intro x' W v' sl' q1 q2 q3 q4 q5
          obtain ⟨uo', uc', rfl⟩ := q1.shape
          simp only [Act.put, List.setIfInBounds_toArray, List.set_cons_zero, List.set_cons_succ]
          go_wp2_with fail
          go_roundw
          case rel => exact ⟨k + 1, es ++ [(revF y, sl')], uo', uc', by omega, by go_num, hidi (by rw [List.length_append, hek.out]; rfl), hidi (by rw [List.map_append, hem.out, hLk.out]; rfl), q2, q1, hidi fun b' h1 h2 => (q3 b' h1 h2).trans (hbl.out b' h1 h2), q4, q5⟩
          case measure => simp [intOf]; omega
        · obtain rfl : k = x.args.length := by omega
          rw [List.take_of_length_le (by rw [hLl.out]; exact Nat.le_refl _)] at hem
          have hrw : Res5 wr (w.heap.size + 1) := by obtain ⟨a1, a2, a3, a4, a5, hr⟩ := hres.out; exact ⟨a1, a2, a3, a4, a5, (hbl.out _ (by omega) (by omega)).trans hr⟩
          by_cases h4 : x.args.length ≤ 4
          · have hle4 : decide ((x.args.length : Int) ≤ 4) = true := decide_eq_true (by omega)
            have hrev : revF x = .mk x.op x.name x.val x.bound (nestF x.op L') := by rw [revF_eq, revN, if_pos hgo, if_pos (by simpa using h4), hL'.out]
            obtain ⟨k1, hk1⟩ : ∃ k1, es.length = k1 + 1 := ⟨es.length - 1, by have := hek.out; omega⟩
            have hnk : x.args.length = k1 + 1 := by rw [← hek.out, hk1]
            obtain ⟨gb, rfl, hgb1, hgb2, hcap, hcm, hRow⟩ := own_row hown (by omega) (fun b hb => by have := hP b hb; omega) hzr
            have hkl : k1 < es.length := by omega
            obtain ⟨y, hy⟩ : ∃ y, Hid (es[k1].1 = y) := ⟨_, hidi rfl⟩
            obtain ⟨sly, hsly⟩ : ∃ y, Hid (es[k1].2 = y) := ⟨_, hidi rfl⟩
            have hcell := hRow.cell k1 hkl
            obtain ⟨hfy, hay⟩ := hRow.good _ (List.getElem_mem hkl)
            rw [hy.out, hsly.out] at hcell hay
            rw [hy.out] at hfy
            have hyL : L'[k1]? = some y := by rw [← hem.out, List.getElem?_map, List.getElem?_eq_getElem hkl]; rw [← hy.out]; rfl
            have hLl1 : L'.length = k1 + 1 := by rw [hLl.out, hnk]
            obtain ⟨osl, csl, rfl⟩ := hay.shape
            obtain ⟨e0, e1, e2, e3, e4⟩ := hcell
            have g0 := cell_of_row _ (w.heap.size + 2) 0 _ _ _ hrg.out
            have g1 := cell_of_row _ (w.heap.size + 2) 1 _ _ _ hrg.out
            have g2 := cell_of_row _ (w.heap.size + 2) 2 _ _ _ hrg.out
            have g3 := cell_of_row _ (w.heap.size + 2) 3 _ _ _ hrg.out
            have g4 := cell_of_row _ (w.heap.size + 2) 4 _ _ _ hrg.out
            simp only [List.getElem?_toArray, List.getElem?_cons_zero, List.getElem?_cons_succ] at g0 g1 g2 g3 g4
            rw [hk1] at g4
            have j1 : (0 : Int) ≤ k1 := by omega
            have j2 : (k1 : Int) < k1 + 1 := by omega
            have j3 : (k1 : Int) + 1 - 1 = k1 := by omega
            have hk14 : k1 ≤ 1000 := by omega
            have hhr := hidi hrw
            have hnl := hidi hnk
            clear hrw hchild' hA hv hlen hrG hres hV0
            obtain ⟨W1, hW1⟩ : ∃ W1, Hid (wr.alloc (.cells #[.int .i64 y.op, .string y.name, .int .i64 y.val, .int .i64 y.bound, .slice osl y.args.length csl] 24) = W1) := ⟨_, hidi rfl⟩
            have hb1 : Below wr.heap.size wr W1 := by rw [← hW1.out]; exact below_box _ _
            have hz1 : W1.heap.size = wr.heap.size + 1 := by rw [← hW1.out]; simp
            have hc7 : Cells5 W1 wr.heap.size 0 (.int .i64 y.op) (.string y.name) (.int .i64 y.val) (.int .i64 y.bound) (.slice osl y.args.length csl) := by rw [← hW1.out]; exact box5 wr _ _ _ _ _ 24
            have hRow1 := hRow.kept hb1 hgb2 fun b hb => hb.2.1
            have hay1 := hay.kept hb1 fun b hb => hb.2.1
            have hBr1 := hBr.trans (hb1.mono hBr.size)
            have dA := (hb1.cell (p := ⟨w.heap.size, 0, none⟩) (by show w.heap.size < _; omega)).trans d0
            have dG := (hb1.cell (p := ⟨w.heap.size + 2, 4, none⟩) (by show w.heap.size + 2 < _; omega)).trans g4
            go_wp2_with fail
            rw [hW1.out]
            refine rev_r13 (N := w.heap.size) (Qf := fun b => (P b ∨ w.heap.size + 3 ≤ b) ∧ b < wr.heap.size ∧ b ≠ gb) _ W1 w _ (by rfl) (by rfl) (by rfl) (by rfl) (by omega) (by omega) (by omega) (by omega) (by omega) hBr1 hk14 dA dG hc7 hop hRow1 hk1 hfy hay1 (fun b hb => ⟨hb.2.2, by omega⟩) ?_
            intro x' W sl' q1 q2 q3 q4
            simp only [Act.put, List.setIfInBounds_toArray, List.set_cons_zero, List.set_cons_succ]
            have hrgW := (q2 (w.heap.size + 2) (by omega) (by omega)).trans ((hb1.block _ (by omega)).trans hrg.out)
            have hrrW : Hid (Res5 W (w.heap.size + 1)) := by obtain ⟨a1, a2, a3, a4, a5, hr⟩ := hhr.out; exact ⟨a1, a2, a3, a4, a5, (q2 _ (by omega) (by omega)).trans ((hb1.block _ (by omega)).trans hr)⟩
            have hargs := q1.args (cap := uc) (by rw [List.length_set]; exact hcap) hcm
            rw [List.map_set, hem.out, nest_set hLl1 hyL, List.length_set, hk1] at hargs
            have hfin : Hid (FAtP (fun b => (((fun b => (((P b ∨ w.heap.size + 3 ≤ b) ∧ b < wr.heap.size ∧ b ≠ gb) ∨ W1.heap.size ≤ b) ∧ b < W.heap.size) b) ∨ b = gb)) W (.agg #[.int .i64 x.op, .string x.name, .int .i64 x.val, .int .i64 x.bound, .slice (some ⟨gb, 0, none⟩) (k1 + 1) uc]) (revF x)) := by
              rw [hrev]
              exact ⟨_, rfl, hfit, hargs⟩
            obtain ⟨a1, a2, a3, a4, a5, ⟨z0, z1, z2, z3, z4⟩, y0, y1, y2, y3, y4⟩ := hrrW.out.cells
            clear g0 g1 g2 g3 g4 d0 d1 d2 d3 d4 e0 e1 e2 e3 e4 dA dG
            have g0 := cell_of_row _ (w.heap.size + 2) 0 _ _ _ hrgW
            have g1 := cell_of_row _ (w.heap.size + 2) 1 _ _ _ hrgW
            have g2 := cell_of_row _ (w.heap.size + 2) 2 _ _ _ hrgW
            have g3 := cell_of_row _ (w.heap.size + 2) 3 _ _ _ hrgW
            have g4 := cell_of_row _ (w.heap.size + 2) 4 _ _ _ hrgW
            simp only [List.getElem?_toArray, List.getElem?_cons_zero, List.getElem?_cons_succ] at g0 g1 g2 g3 g4
            rw [hk1] at g4
            clear hown hrev hRow hRow1 hay hay1 hargs hrgW
            go_wp2_with fail
            (try simp only [Exit.inBlock, Exit.then])
            refine bodyPost_ret (results_cell_row rfl _ _ (w.heap.size + 1) 24 _ (0, 0) _ rfl (hrrW.out.set _ _ _ _ _) Tryz.underlying24 rfl fmSize) rfl ?_
            have hzz := q4
            exact ⟨_, rfl, fm_put (by omega) q3 hfin.out (fun b hb => by rcases hb with ⟨⟨⟨hb | hb, hb2, hb3⟩ | hb, hb4⟩⟩ | hb; (have := hP b hb; omega); all_goals omega) (fun b hb => by rcases hb with ⟨⟨⟨hb | hb, hb2, hb3⟩ | hb, hb4⟩⟩ | hb; exact .inl hb; all_goals exact .inr ⟨by omega, by omega⟩) _ _ _ _ _⟩
          · have hle4 : decide ((x.args.length : Int) ≤ 4) = false := decide_eq_false (by omega)
            have hrev : revF x = .mk x.op x.name x.val x.bound L' := by rw [revF_eq, revN, if_pos hgo, if_neg (by simpa using h4), hL'.out]
            have hhr := hidi hrw
            obtain ⟨a1, a2, a3, a4, a5, ⟨z0, z1, z2, z3, z4⟩, y0, y1, y2, y3, y4⟩ := hrw.cells
            have g0 := cell_of_row _ (w.heap.size + 2) 0 _ _ _ hrg.out
            have g1 := cell_of_row _ (w.heap.size + 2) 1 _ _ _ hrg.out
            have g2 := cell_of_row _ (w.heap.size + 2) 2 _ _ _ hrg.out
            have g3 := cell_of_row _ (w.heap.size + 2) 3 _ _ _ hrg.out
            have g4 := cell_of_row _ (w.heap.size + 2) 4 _ _ _ hrg.out
            simp only [List.getElem?_toArray, List.getElem?_cons_zero, List.getElem?_cons_succ] at g0 g1 g2 g3 g4
            have hfin : Hid (FAtP (fun b => P b ∨ (w.heap.size + 3 ≤ b ∧ b < wr.heap.size)) wr (.agg #[.int .i64 x.op, .string x.name, .int .i64 x.val, .int .i64 x.bound, .slice uo es.length uc]) (revF x)) := by
              rw [hrev, ← hem.out]
              exact ⟨_, rfl, hfit, hown.args⟩
            have hown' := hidi hown
            clear hrw hown hchild' hA hv hrev hlen
            go_wp2_with fail
            (try simp only [Exit.inBlock, Exit.then])
            refine bodyPost_ret (results_cell_row rfl _ _ (w.heap.size + 1) 24 _ (0, 0) _ rfl (hhr.out.set _ _ _ _ _) Tryz.underlying24 rfl fmSize) rfl ?_
            exact ⟨_, rfl, fm_put (by omega) hBr hfin.out (fun b hb => by rcases hb with hb | hb; (have := hP b hb; omega); omega) (fun b hb => by rcases hb with hb | hb; exact .inl hb; exact .inr ⟨by omega, hb.2⟩) _ _ _ _ _⟩
    · by_cases ho6 : x.op = 6
      · have hgo : x.op = 5 ∨ x.op = 6 := .inr ho6
        have q5 : (x.op == 5) = false := by rw [ho6]; rfl
        have q6 : (x.op == 6) = true := by rw [ho6]; rfl
        clear ho5 ho6
        obtain ⟨L', hL'⟩ : ∃ L' : List Fm, Hid ((x.args.map revF).reverse = L') := ⟨_, hidi rfl⟩
        have hLl : Hid (L'.length = x.args.length) := hidi (by rw [← hL'.out]; simp)
        have hne0 : 0 < x.args.length := gath_args hn hgo
        obtain ⟨d0, d1, d2, d3, d4⟩ := hc.out
        rw [Nat.zero_add] at d1 d2 d3 d4
        go_enter Tryz.func47, Tryz.ntmps47
        go_wp2_with fail
        rw [hV0.out]
        go_loopw [5] (fun i wr => ∃ (k : Nat) (es : List (Fm × Value)) (uo : Option Addr) (uc : Nat), k ≤ x.args.length ∧ i = .int .i64 (k : Int) ∧ Hid (es.length = k) ∧ Hid (es.map Prod.fst = L'.take k) ∧ Hid (wr.heap[w.heap.size + 2]? = some (.cells #[.int .i64 x.op, .string x.name, .int .i64 x.val, .int .i64 x.bound, .slice uo es.length uc] 24 (0, 0))) ∧ OwnFs P (w.heap.size + 3) wr (.slice uo es.length uc) es ∧ Hid (∀ b', b' < w.heap.size + 3 → b' ≠ w.heap.size + 2 → wr.heap[b']? = V0.heap[b']?) ∧ Below w.heap.size w wr ∧ w.heap.size + 3 ≤ wr.heap.size) (fun i _ => x.args.length - (intOf i).toNat)
        case atStart => exact ⟨0, [], none, 0, Nat.zero_le _, rfl, hidi rfl, hidi (by simp), hrG, ownFs_nil _ _ _, hidi fun _ _ _ => rfl, hB0, by omega⟩
        case round =>
          obtain ⟨k, es, uo, uc, hk, rfl, hek, hem, hrg, hown, hbl, hBr, hzr⟩ := hrel
          have hAw := hbl.out w.heap.size (by omega) (by omega)
          replace d0 := (World.cell?_of_block hAw).trans d0
          replace d1 := (World.cell?_of_block hAw).trans d1
          replace d2 := (World.cell?_of_block hAw).trans d2
          replace d3 := (World.cell?_of_block hAw).trans d3
          replace d4 := (World.cell?_of_block hAw).trans d4
          by_cases hlt : k < x.args.length
          · obtain ⟨b, off, rfl, hb, hat⟩ := FArgsP.at hA (by omega)
            obtain ⟨j, hj⟩ : ∃ j, Hid (j = x.args.length - 1 - k) := ⟨_, hidi rfl⟩
            have hjl : j < x.args.length := by have := hj.out; omega
            have hs1 : (x.args.length : Int) - 1 - (k : Int) = (j : Int) := by have := hj.out; omega
            have hLk : Hid (L'.take (k + 1) = L'.take k ++ [revF x.args[j]]) := hidi (by rw [← hL'.out]; have hj' := hj.out; subst hj'; exact rev_take hlt)
            obtain ⟨sl, hcy, hF⟩ := hat j hjl
            have ihj := hchild'.out _ (List.getElem_mem hjl)
            generalize x.args[j] = y at *
            have hcy2 := hcy.below hBr (hP b hb)
            have hF2 : FAtP P _ (fval y sl) y := hF.kept hBr hP
            have hbz := Nat.lt_of_lt_of_le (hP b hb) hBr.size
            have hes := hek.out
            have hes9 : es.length ≤ 1000 := by omega
            clear hat hcy hF
            go_wp2_with fail
            try rw [hs1]
            refine rev_r10 (N := w.heap.size) (base := w.heap.size + 3) _ _ w _ (by rfl) (by rfl) (by rfl) (by rfl) (by omega) (by omega) (by omega) hzr hbz hjl (fun b hb => by have := hP b hb; omega) (fun b hb => by have := hP b hb; omega) hBr d4 hrg hcy2 hF2 ihj hown hes9 ?_
            intro x' W v' sl' q1 q2 q3 q4 q5
            obtain ⟨uo', uc', rfl⟩ := q1.shape
            simp only [Act.put, List.setIfInBounds_toArray, List.set_cons_zero, List.set_cons_succ]
            go_wp2_with fail
            go_roundw
            case rel => exact ⟨k + 1, es ++ [(revF y, sl')], uo', uc', by omega, by go_num, hidi (by rw [List.length_append, hek.out]; rfl), hidi (by rw [List.map_append, hem.out, hLk.out]; rfl), q2, q1, hidi fun b' h1 h2 => (q3 b' h1 h2).trans (hbl.out b' h1 h2), q4, q5⟩
            case measure => simp [intOf]; omega
          · obtain rfl : k = x.args.length := by omega
            rw [List.take_of_length_le (by rw [hLl.out]; exact Nat.le_refl _)] at hem
            have hrw : Res5 wr (w.heap.size + 1) := by obtain ⟨a1, a2, a3, a4, a5, hr⟩ := hres.out; exact ⟨a1, a2, a3, a4, a5, (hbl.out _ (by omega) (by omega)).trans hr⟩
            by_cases h4 : x.args.length ≤ 4
            · have hle4 : decide ((x.args.length : Int) ≤ 4) = true := decide_eq_true (by omega)
              have hrev : revF x = .mk x.op x.name x.val x.bound (nestF x.op L') := by rw [revF_eq, revN, if_pos hgo, if_pos (by simpa using h4), hL'.out]
              obtain ⟨k1, hk1⟩ : ∃ k1, es.length = k1 + 1 := ⟨es.length - 1, by have := hek.out; omega⟩
              have hnk : x.args.length = k1 + 1 := by rw [← hek.out, hk1]
              obtain ⟨gb, rfl, hgb1, hgb2, hcap, hcm, hRow⟩ := own_row hown (by omega) (fun b hb => by have := hP b hb; omega) hzr
              have hkl : k1 < es.length := by omega
              obtain ⟨y, hy⟩ : ∃ y, Hid (es[k1].1 = y) := ⟨_, hidi rfl⟩
              obtain ⟨sly, hsly⟩ : ∃ y, Hid (es[k1].2 = y) := ⟨_, hidi rfl⟩
              have hcell := hRow.cell k1 hkl
              obtain ⟨hfy, hay⟩ := hRow.good _ (List.getElem_mem hkl)
              rw [hy.out, hsly.out] at hcell hay
              rw [hy.out] at hfy
              have hyL : L'[k1]? = some y := by rw [← hem.out, List.getElem?_map, List.getElem?_eq_getElem hkl]; rw [← hy.out]; rfl
              have hLl1 : L'.length = k1 + 1 := by rw [hLl.out, hnk]
              obtain ⟨osl, csl, rfl⟩ := hay.shape
              obtain ⟨e0, e1, e2, e3, e4⟩ := hcell
              have g0 := cell_of_row _ (w.heap.size + 2) 0 _ _ _ hrg.out
              have g1 := cell_of_row _ (w.heap.size + 2) 1 _ _ _ hrg.out
              have g2 := cell_of_row _ (w.heap.size + 2) 2 _ _ _ hrg.out
              have g3 := cell_of_row _ (w.heap.size + 2) 3 _ _ _ hrg.out
              have g4 := cell_of_row _ (w.heap.size + 2) 4 _ _ _ hrg.out
              simp only [List.getElem?_toArray, List.getElem?_cons_zero, List.getElem?_cons_succ] at g0 g1 g2 g3 g4
              rw [hk1] at g4
              have j1 : (0 : Int) ≤ k1 := by omega
              have j2 : (k1 : Int) < k1 + 1 := by omega
              have j3 : (k1 : Int) + 1 - 1 = k1 := by omega
              have hk14 : k1 ≤ 1000 := by omega
              have hhr := hidi hrw
              have hnl := hidi hnk
              clear hrw hchild' hA hv hlen hrG hres hV0
              obtain ⟨W1, hW1⟩ : ∃ W1, Hid (wr.alloc (.cells #[.int .i64 y.op, .string y.name, .int .i64 y.val, .int .i64 y.bound, .slice osl y.args.length csl] 24) = W1) := ⟨_, hidi rfl⟩
              have hb1 : Below wr.heap.size wr W1 := by rw [← hW1.out]; exact below_box _ _
              have hz1 : W1.heap.size = wr.heap.size + 1 := by rw [← hW1.out]; simp
              have hc7 : Cells5 W1 wr.heap.size 0 (.int .i64 y.op) (.string y.name) (.int .i64 y.val) (.int .i64 y.bound) (.slice osl y.args.length csl) := by rw [← hW1.out]; exact box5 wr _ _ _ _ _ 24
              have hRow1 := hRow.kept hb1 hgb2 fun b hb => hb.2.1
              have hay1 := hay.kept hb1 fun b hb => hb.2.1
              have hBr1 := hBr.trans (hb1.mono hBr.size)
              have dA := (hb1.cell (p := ⟨w.heap.size, 0, none⟩) (by show w.heap.size < _; omega)).trans d0
              have dG := (hb1.cell (p := ⟨w.heap.size + 2, 4, none⟩) (by show w.heap.size + 2 < _; omega)).trans g4
              go_wp2_with fail
              rw [hW1.out]
              refine rev_r13 (N := w.heap.size) (Qf := fun b => (P b ∨ w.heap.size + 3 ≤ b) ∧ b < wr.heap.size ∧ b ≠ gb) _ W1 w _ (by rfl) (by rfl) (by rfl) (by rfl) (by omega) (by omega) (by omega) (by omega) (by omega) hBr1 hk14 dA dG hc7 hop hRow1 hk1 hfy hay1 (fun b hb => ⟨hb.2.2, by omega⟩) ?_
              intro x' W sl' q1 q2 q3 q4
              simp only [Act.put, List.setIfInBounds_toArray, List.set_cons_zero, List.set_cons_succ]
              have hrgW := (q2 (w.heap.size + 2) (by omega) (by omega)).trans ((hb1.block _ (by omega)).trans hrg.out)
              have hrrW : Hid (Res5 W (w.heap.size + 1)) := by obtain ⟨a1, a2, a3, a4, a5, hr⟩ := hhr.out; exact ⟨a1, a2, a3, a4, a5, (q2 _ (by omega) (by omega)).trans ((hb1.block _ (by omega)).trans hr)⟩
              have hargs := q1.args (cap := uc) (by rw [List.length_set]; exact hcap) hcm
              rw [List.map_set, hem.out, nest_set hLl1 hyL, List.length_set, hk1] at hargs
              have hfin : Hid (FAtP (fun b => (((fun b => (((P b ∨ w.heap.size + 3 ≤ b) ∧ b < wr.heap.size ∧ b ≠ gb) ∨ W1.heap.size ≤ b) ∧ b < W.heap.size) b) ∨ b = gb)) W (.agg #[.int .i64 x.op, .string x.name, .int .i64 x.val, .int .i64 x.bound, .slice (some ⟨gb, 0, none⟩) (k1 + 1) uc]) (revF x)) := by
                rw [hrev]
                exact ⟨_, rfl, hfit, hargs⟩
              obtain ⟨a1, a2, a3, a4, a5, ⟨z0, z1, z2, z3, z4⟩, y0, y1, y2, y3, y4⟩ := hrrW.out.cells
              clear g0 g1 g2 g3 g4 d0 d1 d2 d3 d4 e0 e1 e2 e3 e4 dA dG
              have g0 := cell_of_row _ (w.heap.size + 2) 0 _ _ _ hrgW
              have g1 := cell_of_row _ (w.heap.size + 2) 1 _ _ _ hrgW
              have g2 := cell_of_row _ (w.heap.size + 2) 2 _ _ _ hrgW
              have g3 := cell_of_row _ (w.heap.size + 2) 3 _ _ _ hrgW
              have g4 := cell_of_row _ (w.heap.size + 2) 4 _ _ _ hrgW
              simp only [List.getElem?_toArray, List.getElem?_cons_zero, List.getElem?_cons_succ] at g0 g1 g2 g3 g4
              rw [hk1] at g4
              clear hown hrev hRow hRow1 hay hay1 hargs hrgW
              go_wp2_with fail
              (try simp only [Exit.inBlock, Exit.then])
              refine bodyPost_ret (results_cell_row rfl _ _ (w.heap.size + 1) 24 _ (0, 0) _ rfl (hrrW.out.set _ _ _ _ _) Tryz.underlying24 rfl fmSize) rfl ?_
              have hzz := q4
              exact ⟨_, rfl, fm_put (by omega) q3 hfin.out (fun b hb => by rcases hb with ⟨⟨⟨hb | hb, hb2, hb3⟩ | hb, hb4⟩⟩ | hb; (have := hP b hb; omega); all_goals omega) (fun b hb => by rcases hb with ⟨⟨⟨hb | hb, hb2, hb3⟩ | hb, hb4⟩⟩ | hb; exact .inl hb; all_goals exact .inr ⟨by omega, by omega⟩) _ _ _ _ _⟩
            · have hle4 : decide ((x.args.length : Int) ≤ 4) = false := decide_eq_false (by omega)
              have hrev : revF x = .mk x.op x.name x.val x.bound L' := by rw [revF_eq, revN, if_pos hgo, if_neg (by simpa using h4), hL'.out]
              have hhr := hidi hrw
              obtain ⟨a1, a2, a3, a4, a5, ⟨z0, z1, z2, z3, z4⟩, y0, y1, y2, y3, y4⟩ := hrw.cells
              have g0 := cell_of_row _ (w.heap.size + 2) 0 _ _ _ hrg.out
              have g1 := cell_of_row _ (w.heap.size + 2) 1 _ _ _ hrg.out
              have g2 := cell_of_row _ (w.heap.size + 2) 2 _ _ _ hrg.out
              have g3 := cell_of_row _ (w.heap.size + 2) 3 _ _ _ hrg.out
              have g4 := cell_of_row _ (w.heap.size + 2) 4 _ _ _ hrg.out
              simp only [List.getElem?_toArray, List.getElem?_cons_zero, List.getElem?_cons_succ] at g0 g1 g2 g3 g4
              have hfin : Hid (FAtP (fun b => P b ∨ (w.heap.size + 3 ≤ b ∧ b < wr.heap.size)) wr (.agg #[.int .i64 x.op, .string x.name, .int .i64 x.val, .int .i64 x.bound, .slice uo es.length uc]) (revF x)) := by
                rw [hrev, ← hem.out]
                exact ⟨_, rfl, hfit, hown.args⟩
              have hown' := hidi hown
              clear hrw hown hchild' hA hv hrev hlen
              go_wp2_with fail
              (try simp only [Exit.inBlock, Exit.then])
              refine bodyPost_ret (results_cell_row rfl _ _ (w.heap.size + 1) 24 _ (0, 0) _ rfl (hhr.out.set _ _ _ _ _) Tryz.underlying24 rfl fmSize) rfl ?_
              exact ⟨_, rfl, fm_put (by omega) hBr hfin.out (fun b hb => by rcases hb with hb | hb; (have := hP b hb; omega); omega) (fun b hb => by rcases hb with hb | hb; exact .inl hb; exact .inr ⟨by omega, hb.2⟩) _ _ _ _ _⟩
      · have hgo : ¬ (x.op = 5 ∨ x.op = 6) := by omega
        have q5 : (x.op == 5) = false := beq_eq_false_iff_ne.2 ho5
        have q6 : (x.op == 6) = false := beq_eq_false_iff_ne.2 ho6
        clear ho5 ho6
        obtain ⟨L', hL'⟩ : ∃ L' : List Fm, Hid (x.args.map revF = L') := ⟨_, hidi rfl⟩
        have hLl : Hid (L'.length = x.args.length) := hidi (by rw [← hL'.out]; simp)
        obtain ⟨d0, d1, d2, d3, d4⟩ := hc.out
        rw [Nat.zero_add] at d1 d2 d3 d4
        go_enter Tryz.func47, Tryz.ntmps47
        go_wp2_with fail
        rw [hV0.out]
        go_loopw [5] (fun i wr => ∃ (k : Nat) (es : List (Fm × Value)) (uo : Option Addr) (uc : Nat), k ≤ x.args.length ∧ i = .int .i64 (k : Int) ∧ Hid (es.length = k) ∧ Hid (es.map Prod.fst = L'.take k) ∧ Hid (wr.heap[w.heap.size + 2]? = some (.cells #[.int .i64 x.op, .string x.name, .int .i64 x.val, .int .i64 x.bound, .slice uo es.length uc] 24 (0, 0))) ∧ OwnFs P (w.heap.size + 3) wr (.slice uo es.length uc) es ∧ Hid (∀ b', b' < w.heap.size + 3 → b' ≠ w.heap.size + 2 → wr.heap[b']? = V0.heap[b']?) ∧ Below w.heap.size w wr ∧ w.heap.size + 3 ≤ wr.heap.size) (fun i _ => x.args.length - (intOf i).toNat)
        case atStart => exact ⟨0, [], none, 0, Nat.zero_le _, rfl, hidi rfl, hidi (by simp), hrG, ownFs_nil _ _ _, hidi fun _ _ _ => rfl, hB0, by omega⟩
        case round =>
          obtain ⟨k, es, uo, uc, hk, rfl, hek, hem, hrg, hown, hbl, hBr, hzr⟩ := hrel
          have hAw := hbl.out w.heap.size (by omega) (by omega)
          replace d0 := (World.cell?_of_block hAw).trans d0
          replace d1 := (World.cell?_of_block hAw).trans d1
          replace d2 := (World.cell?_of_block hAw).trans d2
          replace d3 := (World.cell?_of_block hAw).trans d3
          replace d4 := (World.cell?_of_block hAw).trans d4
          by_cases hlt : k < x.args.length
          · obtain ⟨b, off, rfl, hb, hat⟩ := FArgsP.at hA (by omega)
            have hjl : k < x.args.length := hlt
            have hLk : Hid (L'.take (k + 1) = L'.take k ++ [revF x.args[k]]) := hidi (by rw [← hL'.out]; exact map_take1 hlt)
            obtain ⟨sl, hcy, hF⟩ := hat k hjl
            have ihj := hchild'.out _ (List.getElem_mem hjl)
            generalize x.args[k] = y at *
            have hcy2 := hcy.below hBr (hP b hb)
            have hF2 : FAtP P _ (fval y sl) y := hF.kept hBr hP
            have hbz := Nat.lt_of_lt_of_le (hP b hb) hBr.size
            have hes := hek.out
            have hes9 : es.length ≤ 1000 := by omega
            clear hat hcy hF
            go_wp2_with fail
            refine rev_r10 (N := w.heap.size) (base := w.heap.size + 3) _ _ w _ (by rfl) (by rfl) (by rfl) (by rfl) (by omega) (by omega) (by omega) hzr hbz hjl (fun b hb => by have := hP b hb; omega) (fun b hb => by have := hP b hb; omega) hBr d4 hrg hcy2 hF2 ihj hown hes9 ?_
            intro x' W v' sl' q1 q2 q3 q4 q5
            obtain ⟨uo', uc', rfl⟩ := q1.shape
            simp only [Act.put, List.setIfInBounds_toArray, List.set_cons_zero, List.set_cons_succ]
            go_wp2_with fail
            go_roundw
            case rel => exact ⟨k + 1, es ++ [(revF y, sl')], uo', uc', by omega, by go_num, hidi (by rw [List.length_append, hek.out]; rfl), hidi (by rw [List.map_append, hem.out, hLk.out]; rfl), q2, q1, hidi fun b' h1 h2 => (q3 b' h1 h2).trans (hbl.out b' h1 h2), q4, q5⟩
            case measure => simp [intOf]; omega
          · obtain rfl : k = x.args.length := by omega
            rw [List.take_of_length_le (by rw [hLl.out]; exact Nat.le_refl _)] at hem
            have hrw : Res5 wr (w.heap.size + 1) := by obtain ⟨a1, a2, a3, a4, a5, hr⟩ := hres.out; exact ⟨a1, a2, a3, a4, a5, (hbl.out _ (by omega) (by omega)).trans hr⟩
            have hrev : revF x = .mk x.op x.name x.val x.bound L' := by rw [revF_eq, revN, if_neg hgo, hL'.out]
            have hhr := hidi hrw
            obtain ⟨a1, a2, a3, a4, a5, ⟨z0, z1, z2, z3, z4⟩, y0, y1, y2, y3, y4⟩ := hrw.cells
            have g0 := cell_of_row _ (w.heap.size + 2) 0 _ _ _ hrg.out
            have g1 := cell_of_row _ (w.heap.size + 2) 1 _ _ _ hrg.out
            have g2 := cell_of_row _ (w.heap.size + 2) 2 _ _ _ hrg.out
            have g3 := cell_of_row _ (w.heap.size + 2) 3 _ _ _ hrg.out
            have g4 := cell_of_row _ (w.heap.size + 2) 4 _ _ _ hrg.out
            simp only [List.getElem?_toArray, List.getElem?_cons_zero, List.getElem?_cons_succ] at g0 g1 g2 g3 g4
            have hfin : Hid (FAtP (fun b => P b ∨ (w.heap.size + 3 ≤ b ∧ b < wr.heap.size)) wr (.agg #[.int .i64 x.op, .string x.name, .int .i64 x.val, .int .i64 x.bound, .slice uo es.length uc]) (revF x)) := by
              rw [hrev, ← hem.out]
              exact ⟨_, rfl, hfit, hown.args⟩
            have hown' := hidi hown
            clear hrw hown hchild' hA hv hrev hlen
            go_wp2_with fail
            (try simp only [Exit.inBlock, Exit.then])
            refine bodyPost_ret (results_cell_row rfl _ _ (w.heap.size + 1) 24 _ (0, 0) _ rfl (hhr.out.set _ _ _ _ _) Tryz.underlying24 rfl fmSize) rfl ?_
            exact ⟨_, rfl, fm_put (by omega) hBr hfin.out (fun b hb => by rcases hb with hb | hb; (have := hP b hb; omega); omega) (fun b hb => by rcases hb with hb | hb; exact .inl hb; exact .inr ⟨by omega, hb.2⟩) _ _ _ _ _⟩

end Go.Proofs.YtlkoacopknolnaaGreatDoor
