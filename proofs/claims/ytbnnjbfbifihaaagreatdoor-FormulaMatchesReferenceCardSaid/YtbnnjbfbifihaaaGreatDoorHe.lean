/-
  Contracts that FormulaMatchesReference stands on, part He.
-/
import Derived.Test.YtbnnjbfbifihaaaGreatDoorHd
import Derived.Test.YtbnnjbfbifihaaaGreatDoorHa
import Derived.Test.YtbnnjbfbifihaaaGreatDoorFcP
import Derived.Test.YtbnnjbfbifihaaaGreatDoorGi
import Derived.Test.YtbnnjbfbifihaaaGreatDoorFjB
import Derived.Deep.RegionLaw
import Derived.StillTailTactics
namespace Go.Proofs.YtbnnjbfbifihaaaGreatDoor
open Go.RowKit
set_option maxRecDepth 100000
set_option maxHeartbeats 80000000

def oppIn (l : List Fm) (y : Fm) : Bool := l.any fun x => x.op == 4 && decide (cmpF (arg0F x) y = 0)
theorem oppIn_drop {l : List Fm} {j : Nat} (y : Fm) (h : j < l.length) : oppIn (l.drop j) y = ((l[j].op == 4 && decide (cmpF (arg0F l[j]) y = 0)) || oppIn (l.drop (j + 1)) y) := by
  rw [List.drop_eq_getElem_cons h]; rfl
theorem opp_drop {l m : List Fm} {k : Nat} (h : k < l.length) : (l.drop k).any (oppIn m) = (oppIn m l[k] || (l.drop (k + 1)).any (oppIn m)) := by
  rw [List.drop_eq_getElem_cons h]; rfl
theorem same_dec (f g : Fm) : sameF f g = decide (cmpF f g = 0) := by
  unfold sameF
  by_cases h : cmpF f g = 0
  · rw [h]; rfl
  · rw [decide_eq_false h, beq_eq_false_iff_ne]; exact h
theorem refopposed_any (P : Nat → Prop) (v : Value) (l : List Fm) (w : World) (hv : FArgsP P w v l) (hP : ∀ b, P b → b < w.heap.size) (h4 : ∀ x ∈ l, x.op = 4 → 0 < x.args.length) :
    Calls Tryz.prog 101 #[v] w fun e w' => e = .returned (.bool (opposedB l)) ∧ Below w.heap.size w w' := by
  obtain ⟨o, c, rfl⟩ := hv.shape
  have hlen := hv.len
  have hO : Hid (opposedB l = (l.drop 0).any (oppIn l)) := hidi rfl
  have h4' := hidi h4
  clear h4
  go_enter Tryz.func101, Tryz.ntmps101
  go_wp2_with fail
  go_loopw [3] (fun i wr => ∃ k : Nat, k ≤ l.length ∧ i = .int .i64 (k : Int) ∧ Hid (opposedB l = (l.drop k).any (oppIn l)) ∧ Below w.heap.size w wr) (fun i _ => l.length - (intOf i).toNat)
  case atStart => exact ⟨0, Nat.zero_le _, rfl, hO, Below.refl _ _⟩
  case round =>
    obtain ⟨k, hk, rfl, hD, hB⟩ := hrel
    by_cases hlt : k < l.length
    · have hS := hidi (opp_drop (m := l) hlt)
      go_wp2_with fail
      go_loopw [4] (fun i wr => ∃ j : Nat, j ≤ l.length ∧ i = .int .i64 (j : Int) ∧ Hid (oppIn l l[k] = oppIn (l.drop j) l[k]) ∧ Below w.heap.size w wr) (fun i _ => l.length - (intOf i).toNat)
      case atStart => exact ⟨0, Nat.zero_le _, rfl, hidi rfl, hB⟩
      case round =>
        clear hB
        obtain ⟨j, hj, rfl, hE, hB⟩ := hrel
        by_cases hlt2 : j < l.length
        · have hT := hidi (oppIn_drop l[k] hlt2)
          obtain ⟨b, off, rfl, hb, hat⟩ := FArgsP.at hv (by omega)
          obtain ⟨slx, hcx, hFx⟩ := hat j hlt2
          obtain ⟨sly, hcy, hFy⟩ := hat k hlt
          have hx4 := h4'.out _ (List.getElem_mem hlt2)
          generalize l[j] = x at *
          generalize l[k] = y at *
          obtain ⟨o1, c1, hfv, -, hA1⟩ := hFx.open
          obtain rfl : slx = .slice o1 x.args.length c1 := by simpa [fval] using hfv
          obtain ⟨o2, c2, hfv2, -, -⟩ := hFy.open
          obtain rfl : sly = .slice o2 y.args.length c2 := by simpa [fval] using hfv2
          obtain ⟨e0, e1, e2, e3, e4⟩ := hcx.below hB (hP b hb)
          obtain ⟨g0, g1, g2, g3, g4⟩ := hcy.below hB (hP b hb)
          have j1 : (0 : Int) ≤ j := by omega
          have j2 : (j : Int) < l.length := by omega
          have j3 : (0 : Int) ≤ k := by omega
          have j4 : (k : Int) < l.length := by omega
          cases q : (x.op == 4)
          · have hT2 : Hid (oppIn l y = oppIn (l.drop (j + 1)) y) := by unfold Hid; rw [hE.out, hT.out, q]; rfl
            clear hfv hfv2 hA1 hat hFx hFy hcx hcy
            go_wp2_with fail
            go_quiet (fail)
            go_wp2_with fail
            go_roundw
            case rel => exact ⟨j + 1, by omega, by go_num, hT2, by first | exact below_drewN hB _ | exact ⟨hB.os, hB.tape, hB.output, hB.size, hB.block⟩⟩
            case measure => simp [intOf]; omega
          · have hx0 := hx4 (eq_of_beq q)
            obtain ⟨b1, off1, rfl, hb1, hat1⟩ := FArgsP.at hA1 hx0
            obtain ⟨sla, hca, hFa⟩ := hat1 0 hx0
            have ha0 : arg0F x = x.args[0] := by unfold arg0F; rw [List.headD_eq_head?_getD, List.head?_eq_getElem?, List.getElem?_eq_getElem hx0]; rfl
            rw [ha0, ← same_dec, q] at hT
            rw [Nat.zero_mul, Nat.add_zero] at hca
            generalize x.args[0] = a at *
            obtain ⟨o3, c3, hfv3, -, -⟩ := hFa.open
            obtain rfl : sla = .slice o3 a.args.length c3 := by simpa [fval] using hfv3
            obtain ⟨m0, m1, m2, m3, m4⟩ := hca.below hB (hP b1 hb1)
            have j5 : (0 : Int) < x.args.length := by omega
            have hFa' := hidi hFa
            have hFy' := hidi hFy
            clear hfv hfv2 hfv3 hA1 hat hat1 hFx hFy hcx hcy hca hFa
            cases q2 : sameF a y
            · have hT2 : Hid (oppIn l y = oppIn (l.drop (j + 1)) y) := by unfold Hid; rw [hE.out, hT.out, q2]; rfl
              go_wp2_with fail
              go_still_tail 18, (by kernel_rfl)
              go_wp2_with (go_at_call 32; refine (refsame_any a y w.heap.size _ _ _ ((hFa'.out.kept hB.drew hP).mono hP) ((hFy'.out.kept hB.drew hP).mono hP) hB.drew.size).mono ?_; rintro e w1 ⟨rfl, hb1⟩; rw [q2]; have hB := hB.drew.trans (hb1.mono hB.drew.size); clear hb1)
              go_roundw
              case rel => exact ⟨j + 1, by omega, by go_num, hT2, hB⟩
              case measure => simp [intOf]; omega
            · have hT2 : Hid (opposedB l = true) := by unfold Hid; rw [hD.out, hS.out, hE.out, hT.out, q2]; rfl
              go_wp2_with fail
              go_still_tail 18, (by kernel_rfl)
              go_wp2_with (go_at_call 32; refine (refsame_any a y w.heap.size _ _ _ ((hFa'.out.kept hB.drew hP).mono hP) ((hFy'.out.kept hB.drew hP).mono hP) hB.drew.size).mono ?_; rintro e w1 ⟨rfl, hb1⟩; rw [q2]; have hB := hB.drew.trans (hb1.mono hB.drew.size); clear hb1)
              go_ret
              exact ⟨by rw [hT2.out]; rfl, hB⟩
        · have hT2 : Hid (oppIn l l[k] = false) := by unfold Hid; rw [hE.out, List.drop_of_length_le (by omega)]; rfl
          have hS2 : Hid (opposedB l = (l.drop (k + 1)).any (oppIn l)) := by unfold Hid; rw [hD.out, hS.out, hT2.out]; rfl
          clear hT2 hE hS
          go_wp2_with fail
          go_roundw
          case rel => exact ⟨k + 1, by omega, by go_num, hS2, hB⟩
          case measure => simp [intOf]; omega
    · have hR : Hid (opposedB l = false) := by unfold Hid; rw [hD.out, List.drop_of_length_le (by omega)]; rfl
      go_wp2_with fail
      go_ret
      exact ⟨by rw [hR.out]; rfl, hB⟩
def RefCanon (f : Fm) : Prop := ∀ (P : Nat → Prop) (v : Value) (w : World), FAtP P w v f → (∀ b, P b → b < w.heap.size) →
  Calls Tryz.prog 71 #[v] w fun e w' => ∃ r, e = .returned r ∧ FAtP (NewP P w w') w' r (canonF f) ∧ Below w.heap.size w w'
theorem canon_take {l : List Fm} {k : Nat} (h : k < l.length) : (l.map canonF).take (k + 1) = (l.map canonF).take k ++ [canonF l[k]] := by
  rw [List.take_succ_eq_append_getElem (by simp; exact h), List.getElem_map]
theorem all_drop {l : List Fm} {k : Nat} (h : k < l.length) : (l.drop k).all looseB = (looseB l[k] && (l.drop (k + 1)).all looseB) := by
  rw [List.drop_eq_getElem_cons h]; rfl
theorem refall_any (hcan : ∀ g, looseB g = true → RefCanon g) (P : Nat → Prop) (v : Value) (l : List Fm) (w : World) (hl9 : l.length ≤ 1000) (hv : FArgsP P w v l) (hP : ∀ b, P b → b < w.heap.size) :
    Calls Tryz.prog 73 #[v] w fun e w' => ∃ r, e = .returned (.tuple #[r, .bool (l.all looseB)]) ∧ (l.all looseB = true → FArgsP (NewP P w w') w' r (l.map canonF)) ∧ Below w.heap.size w w' := by
  obtain ⟨o, c, rfl⟩ := hv.shape
  have hlen := hv.len
  have hcan' := hidi hcan
  clear hcan
  obtain ⟨L, hL⟩ : ∃ L : List Fm, Hid (l.map canonF = L) := ⟨_, hidi rfl⟩
  go_enter Tryz.func73, Tryz.ntmps73
  go_wp2_with fail
  go_loopw [4, 5] (fun a i wr => ∃ (k : Nat) (es : List (Fm × Value)) (uo : Option Addr) (uc : Nat), k ≤ l.length ∧ a = .slice uo k uc ∧ i = .int .i64 (k : Int) ∧ Hid (es.length = k) ∧ Hid (es.map Prod.fst = L.take k) ∧ Hid (l.all looseB = (l.drop k).all looseB) ∧ OwnFs P w.heap.size wr (.slice uo k uc) es ∧ Below w.heap.size w wr) (fun _ i _ => l.length - (intOf i).toNat)
  case atStart => exact ⟨0, [], none, 0, Nat.zero_le _, rfl, rfl, hidi rfl, hidi (by simp), hidi rfl, ownFs_nil _ _ _, Below.refl _ _⟩
  case round =>
    obtain ⟨k, es, uo, uc, hk, rfl, rfl, hek, hem, hal, hown, hW⟩ := hrel
    by_cases hlt2 : k < l.length
    · obtain ⟨b, off, rfl, hbb, hat⟩ := FArgsP.at hv (by omega)
      obtain ⟨sl, hcy, hF⟩ := hat k hlt2
      have hLk := hidi (canon_take hlt2)
      have hAk := hidi (all_drop hlt2)
      generalize l[k] = y at *
      rw [hL.out] at hLk
      obtain ⟨o9, c9, hfv, -, -⟩ := hF.open
      obtain rfl : sl = .slice o9 y.args.length c9 := by simpa [fval] using hfv
      have hcw := hcy.below hW (hP b hbb)
      obtain ⟨e0, e1, e2, e3, e4⟩ := hcw
      have j1 : (0 : Int) ≤ k := by omega
      have j2 : (k : Int) < l.length := by omega
      have hFk := hidi hF
      have hcy' := hidi hcy
      clear hfv hat hF hcy
      go_wp2_with fail
      refine (refloose_any y w.heap.size _ _ ((hFk.out.kept hW hP).mono hP) hW.size).mono ?_
      rintro e w1 ⟨rfl, hb1⟩
      clear e0 e1 e2 e3 e4
      have hz1 := hb1.size
      have hzw := hW.size
      have hW1 := hW.trans (hb1.mono hzw)
      cases q : looseB y
      · have hR : Hid (l.all looseB = false) := by unfold Hid; rw [hal.out, hAk.out, q]; rfl
        have hW1' := hidi hW1
        clear hown hW hb1 hW1 hv
        go_wp2_with fail
        go_ret2
        exact ⟨_, by rw [hR.out]; rfl, fun e => (by rw [hR.out] at e; cases e), hW1'.out⟩
      · have hA2 : Hid (l.all looseB = (l.drop (k + 1)).all looseB) := by unfold Hid; rw [hal.out, hAk.out, q]; rfl
        have hcy2 := hcy'.out
        obtain ⟨e0, e1, e2, e3, e4⟩ := hcy2.below hW1 (hP b hbb)
        have hown0 : OwnFs P w.heap.size w1 (.slice uo k uc) es := hown.keep hz1 (fun b hb => hb1.block b (by rcases hb with h | ⟨-, h⟩; exact Nat.lt_of_lt_of_le (hP b h) hzw; exact h))
        have hown0' := hidi hown0
        have hW1' := hidi hW1
        have hcall := hidi (hcan'.out y q P _ w1 (hFk.out.kept hW1 hP) (fun b h => Nat.lt_of_lt_of_le (hP b h) hW1.size))
        clear hown hown0 hb1 hW hW1 hcy2
        go_wp2_with fail
        refine hcall.out.mono ?_
        rintro e w2 ⟨r, rfl, hN, hb2⟩
        obtain ⟨o1, c1, rfl, hf1, hA1⟩ := hN.open
        have hz2 := hb2.size
        have hB1 := hW1'.out.trans (hb2.mono hW1'.out.size)
        have hzz := hW1'.out.size
        have hown1 : OwnFs P w.heap.size w2 (.slice uo k uc) es := hown0'.out.keep hz2 (fun b hb => hb2.block b (by rcases hb with h | ⟨-, h⟩; exact Nat.lt_of_lt_of_le (hP b h) hzz; exact h))
        have hNA : FArgsP (Away P w.heap.size w2 (.slice uo k uc)) w2 (.slice o1 (canonF y).args.length c1) (canonF y).args := hA1.mono fun b hb => by
          rcases hb with hb | ⟨h1, h2⟩
          · exact .inl hb
          · exact .inr ⟨by omega, h2, fun e => by have := (hown0'.out.lt b e).2; omega⟩
        have hownr := hown1.1
        rw [hek.out] at hownr
        have hkl : k ≤ 1000 := by omega
        obtain ⟨i0, hi, hi0, hi1, hi2⟩ := info_parts Tryz.fmInfo
        have hown1' := hidi hown1
        have hNA' := hidi hNA
        have hownlt := hidi hown1.lt
        have hP' := hidi hP
        clear hcall e0 e1 e2 e3 e4 hNA hown1 hA1 hN
        go_wp2_with (at_builtin; refine wpList_append_lies _ rfl (.tmp 18) (.tmp 24) 22 rfl w.heap.size 24 i0 (.agg #[.int .i64 0, .string ⟨#[]⟩, .int .i64 0, .int .i64 0, .slice none 0 0]) 5 64 Tryz.underlying22 hi hi0 hi1 hi2 rfl (by decide) (.slice uo k uc) k (fmCells es) rfl (hownr.alloc _) ⟨w2.heap.size, 0, none⟩ 1 1 [.int .i64 (canonF y).op, .string (canonF y).name, .int .i64 (canonF y).val, .int .i64 (canonF y).bound, .slice o1 (canonF y).args.length c1] rfl rfl ?c1 ?c2 (by decide) ?c3 ?c4 ?c5 (w2.heap.size + 1) ?c6 ?_)
        case c1 => exact World.news_of_block (heap_alloc_new w2 _)
        case c2 => simp [Value.oneCell']
        case c3 => unfold maxLen; omega
        case c4 => omega
        case c5 => simp; omega
        case c6 => simp
        intro gg cap w3 hown2 hgrow hat hlt3
        have hB12 : Below w2.heap.size w2 (w2.alloc (.cells #[.int .i64 (canonF y).op, .string (canonF y).name, .int .i64 (canonF y).val, .int .i64 (canonF y).bound, .slice o1 (canonF y).args.length c1] 24)) := below_box w2 _
        have hsn : OwnFs P w.heap.size w3 (.slice (some ⟨gg, 0, none⟩) (k + 1) cap) (es ++ [(canonF y, .slice o1 (canonF y).args.length c1)]) := by
          refine hown1'.out.snoc hf1 hNA'.out hP'.out (by omega) hB12 (by rw [hek.out]; exact hown2) hgrow ?_
          rcases hat with h | h
          · exact .inl h.symm
          · exact .inr ⟨gg, rfl, by omega⟩
        have hB2 : Below w.heap.size w w3 := by
          have h12 := hB1.trans (hB12.mono (by omega))
          refine ⟨hgrow.os.trans h12.os, hgrow.tape.trans h12.tape, hgrow.output.trans h12.output, Nat.le_trans h12.size hgrow.size, fun b hb => ?_⟩
          exact (hgrow.block b (Nat.lt_of_lt_of_le hb h12.size) (fun e => by have := (hownlt.out _ e.symm).1; omega)).trans (h12.block b hb)
        have r8 : Hid ((es ++ [(canonF y, Value.slice o1 (canonF y).args.length c1)]).map Prod.fst = L.take (k + 1)) := by
          unfold Hid
          rw [hLk.out, List.map_append, hem.out]
          rfl
        have r10 : Hid ((es ++ [(canonF y, Value.slice o1 (canonF y).args.length c1)]).length = k + 1) := by unfold Hid; rw [List.length_append, hek.out]; rfl
        have hsn' := hidi hsn
        have hB2' := hidi hB2
        clear hsn hB2 hown2 hgrow hat hownr hB12
        go_wp2_with fail
        go_roundw
        case rel => exact ⟨k + 1, _, some ⟨gg, 0, none⟩, cap, by omega, rfl, by go_num, r10, r8, hA2, hsn'.out, hB2'.out⟩
        case measure => simp [intOf]; omega
    · obtain rfl : k = l.length := by omega
      have hR : Hid (l.all looseB = true) := by unfold Hid; rw [hal.out, List.drop_of_length_le (Nat.le_refl _)]; rfl
      have hargs := hown.args
      rw [hem.out, List.take_of_length_le (by rw [← hL.out]; simp), ← hL.out] at hargs
      go_wp2_with fail
      go_ret2
      exact ⟨_, by rw [hR.out]; rfl, fun _ => hargs.mono fun b hb => hb, hW⟩
def refCanonF (f : Fm) : Fm := if looseB f then checkedF (canonF f) else zeroF
theorem refcanontop_any (P : Nat → Prop) (v : Value) (f : Fm) (hcan : looseB f = true → RefCanon f) (w : World) (hv : FAtP P w v f) (hP : ∀ b, P b → b < w.heap.size) :
    Calls Tryz.prog 36 #[v] w fun e w' => ∃ r, e = .returned r ∧ FAtP (NewP P w w') w' r (refCanonF f) ∧ Below w.heap.size w w' := by
  obtain ⟨o, c, rfl, hfit, hA⟩ := hv.open
  obtain ⟨W0, hW0, hB0, hc, hc2, hlt⟩ := fm2_open w (.int .i64 f.op) (.string f.name) (.int .i64 f.val) (.int .i64 f.bound) (.slice o f.args.length c) (.int .i64 0) (.string ⟨#[]⟩) (.int .i64 0) (.int .i64 0) (.slice none 0 0)
  have hres : Hid (Res5 W0 (w.heap.size + 1)) := by
    have h2 := heap_alloc_new (w.alloc (.cells #[.int .i64 f.op, .string f.name, .int .i64 f.val, .int .i64 f.bound, .slice o f.args.length c] 24)) (.cells #[.int .i64 0, .string ⟨#[]⟩, .int .i64 0, .int .i64 0, .slice none 0 0] 24)
    rw [show (w.alloc (.cells #[.int .i64 f.op, .string f.name, .int .i64 f.val, .int .i64 f.bound, .slice o f.args.length c] 24)).heap.size = w.heap.size + 1 by simp] at h2
    rw [hW0.out] at h2
    exact ⟨_, _, _, _, _, h2⟩
  have hPR : ∀ b, P b → b ≠ w.heap.size + 1 := fun b h => by have := hP b h; omega
  have hF0 : FAt w.heap.size W0 _ f := (hv.kept hB0 hP).mono hP
  obtain ⟨d0, d1, d2, d3, d4⟩ := hc.out
  rw [Nat.zero_add] at d1 d2 d3 d4
  cases q : looseB f
  · rw [show refCanonF f = zeroF by unfold refCanonF; rw [q]; rfl]
    go_enter Tryz.func36, Tryz.ntmps36
    go_wp2_with fail
    rw [hW0.out]
    go_wp2_with (go_at_call 41; refine (refloose_any f w.heap.size _ _ hF0 hB0.size).mono ?_; rintro e w1 ⟨rfl, hb1⟩; rw [q]; clear d0 d1 d2 d3 d4; obtain ⟨d0, d1, d2, d3, d4⟩ := hc.out.later hb1 (by omega); rw [Nat.zero_add] at d1 d2 d3 d4; have hr1 := hidi (hres.out.below hb1); obtain ⟨a1, a2, a3, a4, a5, ⟨z0, z1, z2, z3, z4⟩, y0, y1, y2, y3, y4⟩ := hr1.out.cells)
    (try simp only [Exit.inBlock, Exit.then])
    refine bodyPost_ret (results_cell_row rfl _ _ (w.heap.size + 1) 24 _ (0, 0) _ rfl (hr1.out.set _ _ _ _ _) Tryz.underlying24 rfl fmSize) rfl ?_
    have hAB := hB0.trans (hb1.mono hB0.size)
    refine ⟨_, rfl, fm_put (Nat.le_succ _) hAB (.mk i64_0 size_0 i64_0 i64_0 (.nil _ _)) hPR (fun b h => .inl h) _ _ _ _ _⟩
  · rw [show refCanonF f = checkedF (canonF f) by unfold refCanonF; rw [q]; rfl]
    go_enter Tryz.func36, Tryz.ntmps36
    go_wp2_with fail
    rw [hW0.out]
    refine (refloose_any f w.heap.size _ _ hF0 hB0.size).mono ?_
    rintro e w1 ⟨rfl, hb1⟩
    rw [q]
    clear d0 d1 d2 d3 d4
    obtain ⟨d0, d1, d2, d3, d4⟩ := hc.out.later hb1 (by omega)
    rw [Nat.zero_add] at d1 d2 d3 d4
    have hr1 := hidi (hres.out.below hb1)
    have hAB := hB0.trans (hb1.mono hB0.size)
    have hv1 := hv.kept hAB hP
    have hP1 : ∀ b, P b → b < w1.heap.size := fun b h => Nat.lt_of_lt_of_le (hP b h) hAB.size
    go_wp2_with fail
    refine (hcan q P _ w1 hv1 hP1).mono ?_
    rintro e w2 ⟨r, rfl, hN, hb2⟩
    have hr2 := hidi (hr1.out.below hb2)
    have hAB2 := hAB.trans (hb2.mono hAB.size)
    have hz2 := hb2.size
    clear d0 d1 d2 d3 d4
    go_wp2_with fail
    refine (refchecked_any (NewP P w1 w2) r _ w2 hN (fun b hb => by rcases hb with hb | hb; exact Nat.lt_of_lt_of_le (hP1 b hb) hz2; exact hb.2)).mono ?_
    rintro e w3 ⟨r3, rfl, hN3, hb3⟩
    obtain ⟨o3, c3, rfl, hf3, hA3⟩ := hN3.open
    have hr3 := hidi (hr2.out.below hb3)
    have hAB3 := hidi (hAB2.trans (hb3.mono hAB2.size))
    have hz1 := hAB.size
    have hz0 := hb1.size
    have hz3 := hb3.size
    obtain ⟨a1, a2, a3, a4, a5, ⟨z0, z1, z2, z3, z4⟩, y0, y1, y2, y3, y4⟩ := hr3.out.cells
    have hN3' := hidi hN3
    clear hN3 hA3 hN hv hA hF0 hv1
    go_wp2_with fail
    (try simp only [Exit.inBlock, Exit.then])
    refine bodyPost_ret (results_cell_row rfl _ _ (w.heap.size + 1) 24 _ (0, 0) _ rfl (hr3.out.set _ _ _ _ _) Tryz.underlying24 rfl fmSize) rfl ?_
    refine ⟨_, rfl, ?_⟩
    exact fm_put (Nat.le_succ _) hAB3.out hN3'.out (fun b hb => by rcases hb with (hb | hb) | hb; exact hPR b hb; all_goals omega) (fun b hb => by rcases hb with (hb | hb) | hb; exact .inl hb; all_goals exact .inr ⟨by omega, by omega⟩) _ _ _ _ _
theorem lst_mono {L : Nat → Bool} {i j : Nat} (h : L j = true) : lst L i j = true := by unfold lst; split; rfl; exact h
theorem lst_self {L : Nat → Bool} {i : Nat} : lst L i i = true := by unfold lst; rw [if_pos rfl]
theorem lst_other {L : Nat → Bool} {i j : Nat} (h : j ≠ i) : lst L i j = L j := by unfold lst; rw [if_neg h]
theorem grown_below {base : Nat} {W w' : World} {row : Option Nat} (hgr : W.grownBy w' row) (hb : base ≤ W.heap.size) (h : ∀ k, row = some k → base ≤ k) : Below base W w' :=
  ⟨hgr.os, hgr.tape, hgr.output, hgr.size, fun b hb1 => hgr.block b (by omega) fun e => by have := h b e.symm; omega⟩
structure SeenL (ops : Array Oper) (F : (Nat → Bool) → Nat → Value → World → Prop) (L : Nat → Bool) (a0 : Act) (W0 : World) (base : Nat) (a : Act) (W : World) : Prop where
  below : Below base W0 W
  size : a.tmps.size = a0.tmps.size
  old : ∀ e, (∀ j, j < ops.size → dstOf ops j ≠ some e) → a.tmps[e]? = a0.tmps[e]?
  new : ∀ j d, j < ops.size → L j = true → dstOf ops j = some d → ∃ v, a.tmps[d]? = some v ∧ F L j v W
  closed : ∀ i j, i < ops.size → L i = true → (depsOf ops i).contains j = true → L j = true
theorem SeenL.slot {ops : Array Oper} {F : (Nat → Bool) → Nat → Value → World → Prop} {L : Nat → Bool} {a0 : Act} {W0 : World} {base : Nat} {a : Act} {W : World} (h : SeenL ops F L a0 W0 base a W) {e : Tmp} {v : Value} (hf : freeB ops e = true) (h0 : a0.tmps[e]? = some v) : a.tmps[e]? = some v := by
  rw [h.old e fun j hj hd => ?_, h0]
  unfold freeB at hf
  rw [List.all_eq_true] at hf
  have := hf j (List.mem_range.2 hj)
  rw [hd] at this
  simp at this
theorem wp_region_done {P : Program} {ops : Array Oper} {Q : Exit → Act → World → Prop} {id : Nat} {a0 : Act} {W0 : World} (hm : P.follows .mixedOrders = true) (ho : ordered ops = true) (hap : apartB ops = true) (hbd : boundB ops a0.tmps.size = true) (F : (Nat → Bool) → Nat → Value → World → Prop) (base : Nat)
    (hstep : ∀ L i a W K, i < ops.size → L i = false → (∀ j, (depsOf ops i).contains j = true → L j = true) → SeenL ops F L a0 W0 base a W →
      (∀ v w', Below base W w' → (∀ j u, L j = true → F L j u W → F (lst L i) j u w') → F (lst L i) i v w' → K (a.put (dstOf ops i) v) w') → wpOp P ops Q i K a W)
    (hend : ∀ L x W, (∀ i, i < ops.size → L i = true) → Below base W0 W → (∀ i d, i < ops.size → dstOf ops i = some d → F L i (x i) W) → Q .normal (putL ops x (List.range ops.size) a0) W) : (Code.region id ops true).wp P Q a0 W0 := by
  refine wp_region_state hm ho (fun L a W => SeenL ops F L a0 W0 base a W ∧ a.defers = a0.defers) ⟨⟨(Below.refl _ _).drew, rfl, fun _ _ => rfl, fun j d _ h => (by cases h), fun i j _ h => (by cases h)⟩, rfl⟩ ?_ ?_
  · rintro L i a W K hi hL hd ⟨hS, hdf⟩ hK
    refine hstep L i a W K hi hL hd hS fun v w' hb hkeep hv => hK _ _ ⟨⟨hS.below.trans hb, by rw [put_size, hS.size], fun e he => ?_, fun j d hj hLj hjd => ?_, fun p q hp hLp hq => ?_⟩, by rw [put_defers, hdf]⟩
    rotate_left 2
    · refine lst_mono ?_
      by_cases hpi : p = i
      · subst hpi; exact hd q hq
      · exact hS.closed p q hp (by rwa [lst_other hpi] at hLp) hq
    · cases hdi : dstOf ops i with
      | none => exact hS.old e he
      | some d =>
        rw [put_at, if_neg]
        · exact hS.old e he
        · rintro ⟨rfl, -⟩
          exact he i hi hdi
    · by_cases hji : j = i
      · subst hji
        rw [hjd, put_at, if_pos ⟨rfl, by rw [hS.size]; exact boundB_spec hbd hj hjd⟩]
        exact ⟨v, rfl, hv⟩
      · have hLj' : L j = true := by unfold lst at hLj; rwa [if_neg hji] at hLj
        obtain ⟨u, hu, hf⟩ := hS.new j d hj hLj' hjd
        refine ⟨u, ?_, hkeep j u hLj' hf⟩
        cases hdi : dstOf ops i with
        | none => exact hu
        | some d' =>
          rw [put_at, if_neg]
          · exact hu
          · rintro ⟨rfl, -⟩
            exact apartB_spec hap hi hj (Ne.symm hji) hdi hjd
  · rintro L a W hall ⟨hS, hdf⟩
    have key : a = putL ops (fun i => (Act.at a (dstOf ops i)).getD undef) (List.range ops.size) a0 := by
      obtain ⟨k1, k2, k3⟩ := putL_keep (ops := ops) (x := fun i => (Act.at a (dstOf ops i)).getD undef) (List.range ops.size) a0
      refine act_ext (by rw [k1, hS.size]) (by rw [k2, hdf]) fun e => ?_
      by_cases he : ∃ j, j < ops.size ∧ dstOf ops j = some e
      · obtain ⟨j, hj, hje⟩ := he
        obtain ⟨v, hv, -⟩ := hS.new j e hj (hall j hj) hje
        rw [putL_at hap (List.range ops.size) a0 List.nodup_range (fun i hi => List.mem_range.1 hi) j (List.mem_range.2 hj) e hje (boundB_spec hbd hj hje), hv, hje]
        simp [Act.at, hv]
      · have he' : ∀ j, j < ops.size → dstOf ops j ≠ some e := fun j hj h => he ⟨j, hj, h⟩
        rw [k3 e fun i hi => he' i (List.mem_range.1 hi)]
        exact hS.old e he'
    rw [key]
    refine hend L _ W hall hS.below fun i d hi hid => ?_
    obtain ⟨v, hv, hf⟩ := hS.new i d hi (hall i hi) hid
    rw [hid]
    simp only [Act.at, Option.bind_some, hv, Option.getD_some]
    exact hf
def tailAddr (c k : Nat) : Option Addr → Option Addr
  | none => none
  | some ad => if c = k then some ad else some (ad.add (k * 5))
def PutF (P : Nat → Prop) (base : Nat) (AD AA : Option Addr) (n c k : Nat) (l : List Fm) (x : Fm) (sl : Value) (L : Nat → Bool) (j : Nat) (v : Value) (W : World) : Prop := match j with
  | 0 => L 4 = true ∨ ∃ g, v = .slice (some ⟨g, 0, none⟩) 0 0 ∧ base ≤ g ∧ W.heap[g]? = some (.cells #[] 24 (0, 0))
  | 1 => v = .slice AD n c
  | 2 => v = .int .i64 (k : Int)
  | 3 => v = .slice AD k c
  | 4 => L 7 = true ∨ ∃ es : List (Fm × Value), es.map Prod.fst = l.take k ∧ OwnP P base W v es
  | 5 => v = .agg #[.int .i64 x.op, .string x.name, .int .i64 x.val, .int .i64 x.bound, sl]
  | 6 => L 7 = true ∨ ∃ g, v = .slice (some ⟨g, 0, none⟩) 1 1 ∧ base ≤ g ∧ W.heap[g]? = some (.cells #[.int .i64 x.op, .string x.name, .int .i64 x.val, .int .i64 x.bound, sl] 24 (0, 0))
  | 7 => L 11 = true ∨ ∃ es : List (Fm × Value), es.map Prod.fst = l.take k ++ [x] ∧ OwnP P base W v es
  | 8 => v = .slice AD n c
  | 9 => v = .int .i64 (k : Int)
  | 10 => v = .slice AA (n - k) (c - k)
  | 11 => ∃ es : List (Fm × Value), es.map Prod.fst = l.take k ++ [x] ++ l.drop k ∧ OwnP P base W v es
  | 12 => ∃ es : List (Fm × Value), es.map Prod.fst = l.take k ++ [x] ++ l.drop k ∧ OwnP P base W v es
  | _ => True
theorem PutF.keep {P : Nat → Prop} {base : Nat} {AD AA : Option Addr} {n c k : Nat} {l : List Fm} {x : Fm} {sl : Value} {L L' : Nat → Bool} {W W' : World} (hL : ∀ j, L j = true → L' j = true) (hP : ∀ b, P b → b < base) (hb : base ≤ W.heap.size) (_ : W.heap.size ≤ W'.heap.size) (hB : ∀ b, b < W.heap.size → W'.heap[b]? = W.heap[b]?) (j : Nat) (v : Value) (h : PutF P base AD AA n c k l x sl L j v W) : PutF P base AD AA n c k l x sl L' j v W' := by
  have own : ∀ es : List (Fm × Value), OwnP P base W v es → OwnP P base W' v es := fun es h => by
    refine ⟨⟨h.1.1, ?_⟩, fun e he => ⟨(h.2 e he).1, (h.2 e he).2.same fun b hb1 => hB b (by have := hP b hb1; omega)⟩⟩
    rcases h.1.2 with h1 | ⟨g, cap, cur, hv, hb, hg, r⟩
    · exact .inl h1
    · exact .inr ⟨g, cap, cur, hv, hb, by rw [hB g (Array.getElem?_eq_some_iff.1 hg).1]; exact hg, r⟩
  have at' : ∀ g o, W.heap[g]? = some o → W'.heap[g]? = some o := fun g o h => by
    obtain ⟨hlt, -⟩ := Array.getElem?_eq_some_iff.1 h
    rw [hB g hlt]; exact h
  unfold PutF at h ⊢
  split at h
  · rcases h with h | ⟨g, h1, h2, h3⟩; exact .inl (hL _ h); exact .inr ⟨g, h1, h2, at' _ _ h3⟩
  · exact h
  · exact h
  · exact h
  · rcases h with h | ⟨es, h1, h2⟩; exact .inl (hL _ h); exact .inr ⟨es, h1, own _ h2⟩
  · exact h
  · rcases h with h | ⟨g, h1, h2, h3⟩; exact .inl (hL _ h); exact .inr ⟨g, h1, h2, at' _ _ h3⟩
  · rcases h with h | ⟨es, h1, h2⟩; exact .inl (hL _ h); exact .inr ⟨es, h1, own _ h2⟩
  · exact h
  · exact h
  · exact h
  · obtain ⟨es, h1, h2⟩ := h; exact ⟨es, h1, own _ h2⟩
  · obtain ⟨es, h1, h2⟩ := h; exact ⟨es, h1, own _ h2⟩
  · trivial
theorem PutF.step4 {P : Nat → Prop} {base : Nat} {AD AA : Option Addr} {n c k : Nat} {l : List Fm} {x : Fm} {sl : Value} {L : Nat → Bool} {W W' : World} (n4 : L 4 = false) (n7 : L 7 = false) (n11 : L 11 = false) (n12 : L 12 = false) {g : Nat} (hgc : W.heap[g]? = some (.cells #[] 24 (0, 0))) (hne : ∀ b, b ≠ g → b < W.heap.size → W'.heap[b]? = W.heap[b]?) (j : Nat) (v : Value) (hj : L j = true) (h : PutF P base AD AA n c k l x sl L j v W) : PutF P base AD AA n c k l x sl (lst L 4) j v W' := by
  unfold PutF at h ⊢
  split at h
  · exact .inl lst_self
  · exact h
  · exact h
  · exact h
  · rw [n4] at hj; cases hj
  · exact h
  · rcases h with h | ⟨g', h1, h2, h3⟩
    · rw [n7] at h; cases h
    · refine .inr ⟨g', h1, h2, ?_⟩
      obtain ⟨hlt, -⟩ := Array.getElem?_eq_some_iff.1 h3
      rw [hne g' (fun e => by rw [e, hgc] at h3; simp at h3) hlt]; exact h3
  · rw [n7] at hj; cases hj
  · exact h
  · exact h
  · exact h
  · rw [n11] at hj; cases hj
  · rw [n12] at hj; cases hj
  · trivial
theorem PutF.step7 {P : Nat → Prop} {base : Nat} {AD AA : Option Addr} {n c k : Nat} {l : List Fm} {x : Fm} {sl : Value} {L : Nat → Bool} {W W' : World} (y4 : L 4 = true) (n7 : L 7 = false) (n11 : L 11 = false) (n12 : L 12 = false) (j : Nat) (v : Value) (hj : L j = true) (h : PutF P base AD AA n c k l x sl L j v W) : PutF P base AD AA n c k l x sl (lst L 7) j v W' := by
  unfold PutF at h ⊢
  split at h
  · exact .inl (lst_mono y4)
  · exact h
  · exact h
  · exact h
  · exact .inl lst_self
  · exact h
  · exact .inl lst_self
  · rw [n7] at hj; cases hj
  · exact h
  · exact h
  · exact h
  · rw [n11] at hj; cases hj
  · rw [n12] at hj; cases hj
  · trivial
theorem PutF.step11 {P : Nat → Prop} {base : Nat} {AD AA : Option Addr} {n c k : Nat} {l : List Fm} {x : Fm} {sl : Value} {L : Nat → Bool} {W W' : World} (y4 : L 4 = true) (y7 : L 7 = true) (n11 : L 11 = false) (n12 : L 12 = false) (j : Nat) (v : Value) (hj : L j = true) (h : PutF P base AD AA n c k l x sl L j v W) : PutF P base AD AA n c k l x sl (lst L 11) j v W' := by
  unfold PutF at h ⊢
  split at h
  · exact .inl (lst_mono y4)
  · exact h
  · exact h
  · exact h
  · exact .inl (lst_mono y7)
  · exact h
  · exact .inl (lst_mono y7)
  · exact .inl lst_self
  · exact h
  · exact h
  · exact h
  · rw [n11] at hj; cases hj
  · rw [n12] at hj; cases hj
  · trivial
theorem news_at {W : World} {g : Nat} {x : Fm} {sl : Value} (h : W.heap[g]? = some (.cells #[.int .i64 x.op, .string x.name, .int .i64 x.val, .int .i64 x.bound, sl] 24 (0, 0))) : ∀ (j : Nat) (u : Value), (fmCells [(x, sl)])[j]? = some u → W.cell? ((⟨g, 0, none⟩ : Addr).add j) = some u := by
  intro j u hu
  rw [Addr.add_lit]
  match j, hu with
  | 0, hu => cases hu; exact cell_of_row W g 0 _ _ _ h
  | 1, hu => cases hu; exact cell_of_row W g 1 _ _ _ h
  | 2, hu => cases hu; exact cell_of_row W g 2 _ _ _ h
  | 3, hu => cases hu; exact cell_of_row W g 3 _ _ _ h
  | 4, hu => cases hu; exact cell_of_row W g 4 _ _ _ h
  | q + 5, hu => simp [fmCells] at hu
theorem FArgsP.take {P : Nat → Prop} {w : World} {ad : Addr} {c : Nat} {l : List Fm} (h : FArgsP P w (.slice (some ad) l.length c) l) (k : Nat) (hk : k ≤ l.length) : FArgsP P w (.slice (some ad) k c) (l.take k) := by
  have hl : (l.take k).length = k := by rw [List.length_take, Nat.min_eq_left hk]
  rcases Nat.eq_zero_or_pos k with rfl | h0
  · exact .nil _ _
  · generalize hv : Value.slice (some ad) l.length c = v at h
    cases h with
    | nil o c => simp at hk; omega
    | cons b off cap l sl h1 hbb hlc hc hf hk5 hr =>
      cases hv
      have := FArgsP.cons (P := P) (w := w) b off c (l.take k) sl (by omega) hbb (by omega) hc (fun j hj => by rw [List.getElem_take]; exact hf j (by omega)) (fun j hj => by rw [List.getElem_take]; exact hk5 j (by omega)) (fun j hj => by rw [List.getElem_take]; exact hr j (by omega))
      rwa [hl] at this
theorem FArgsP.drop {P : Nat → Prop} {w : World} {b off c : Nat} {l : List Fm} (h : FArgsP P w (.slice (some ⟨b, off, none⟩) l.length c) l) (k : Nat) (hk : k < l.length) : FArgsP P w (.slice (some ⟨b, off + k * 5, none⟩) (l.length - k) (c - k)) (l.drop k) := by
  have hl : (l.drop k).length = l.length - k := List.length_drop ..
  generalize hv : Value.slice (some ⟨b, off, none⟩) l.length c = v at h
  cases h with
  | nil o c => simp at hk
  | cons b off cap l sl h1 hbb hlc hc hf hk5 hr =>
    cases hv
    have := FArgsP.cons (P := P) (w := w) b (off + k * 5) (c - k) (l.drop k) (fun j => sl (k + j)) (by omega) hbb (by omega) (by omega) (fun j hj => by rw [List.getElem_drop]; exact hf (k + j) (by omega)) (fun j hj => by rw [List.getElem_drop, show off + k * 5 + j * 5 = off + (k + j) * 5 by omega]; exact hk5 (k + j) (by omega)) (fun j hj => by rw [List.getElem_drop]; exact hr (k + j) (by omega))
    rwa [hl] at this
theorem put_r6 {P : Nat → Prop} {l : List Fm} {x : Fm} {n k c G base : Nat} {AD AA : Option Addr} {sl : Value} (a0 : Act) (W0 : World) (Q : Exit → Act → World → Prop) (hz : a0.tmps.size = 46) (p0 : a0.tmps[(0 : Nat)]? = some (.slice AD n c)) (p3 : a0.tmps[(3 : Nat)]? = some (.pointer (some ⟨G, 0, none⟩))) (p5 : a0.tmps[(5 : Nat)]? = some (.int .i64 (k : Int)))
    (hG : G < base) (hbase : base ≤ W0.heap.size) (hP : ∀ b, P b → b < base) (hbx : Cells5 W0 G 0 (.int .i64 x.op) (.string x.name) (.int .i64 x.val) (.int .i64 x.bound) sl) (hfx : Fits x) (hax : FArgsP P W0 sl x.args) (ht : FArgsP P W0 (.slice AD k c) (l.take k)) (hr : FArgsP P W0 (.slice AA (n - k) (c - k)) (l.drop k)) (hk : k ≤ n) (hn : Hid (n = l.length)) (hl : l.length ≤ 2000) (hc : n ≤ c)
    (hA : Hid (AA = tailAddr c k AD))
    (hend : ∀ (x' : Nat → Value) (W : World) (es : List (Fm × Value)), Below base W0 W → es.map Prod.fst = l.take k ++ [x] ++ l.drop k → OwnP P base W (x' 12) es → Q .normal (((((((((((((a0.put (some 34) (x' 0)).put (some 35) (x' 1)).put (some 36) (x' 2)).put (some 37) (x' 3)).put (some 38) (x' 4)).put (some 39) (x' 5)).put (some 40) (x' 6)).put (some 41) (x' 7)).put (some 42) (x' 8)).put (some 43) (x' 9)).put (some 44) (x' 10)).put (some 45) (x' 11)).put (some 4) (x' 12)) W) :
    (Code.region 6 (opsAt Tryz.f100 6) true).wp Tryz.prog Q a0 W0 := by
  have d0 : dstOf (opsAt Tryz.f100 6) 0 = some 34 := by kernel_rfl
  have d1 : dstOf (opsAt Tryz.f100 6) 1 = some 35 := by kernel_rfl
  have d2 : dstOf (opsAt Tryz.f100 6) 2 = some 36 := by kernel_rfl
  have d3 : dstOf (opsAt Tryz.f100 6) 3 = some 37 := by kernel_rfl
  have d4 : dstOf (opsAt Tryz.f100 6) 4 = some 38 := by kernel_rfl
  have d5 : dstOf (opsAt Tryz.f100 6) 5 = some 39 := by kernel_rfl
  have d6 : dstOf (opsAt Tryz.f100 6) 6 = some 40 := by kernel_rfl
  have d7 : dstOf (opsAt Tryz.f100 6) 7 = some 41 := by kernel_rfl
  have d8 : dstOf (opsAt Tryz.f100 6) 8 = some 42 := by kernel_rfl
  have d9 : dstOf (opsAt Tryz.f100 6) 9 = some 43 := by kernel_rfl
  have d10 : dstOf (opsAt Tryz.f100 6) 10 = some 44 := by kernel_rfl
  have d11 : dstOf (opsAt Tryz.f100 6) 11 = some 45 := by kernel_rfl
  have d12 : dstOf (opsAt Tryz.f100 6) 12 = some 4 := by kernel_rfl
  have hsz : (opsAt Tryz.f100 6).size = 13 := by kernel_rfl
  obtain ⟨L, hL⟩ : ∃ L, Hid ((opsAt Tryz.f100 6) = L) := ⟨_, hidi rfl⟩
  have hL2 := hL.out
  unfold opsAt Tryz.f100 at hL2
  simp only [findRegion, Nat.reduceBEq, if_true, if_false, Bool.false_eq_true, Option.getD_some] at hL2
  replace hL2 := hidi hL2
  have hxs := hax.shape
  refine wp_region_done (by kernel_rfl) (by kernel_rfl) (by kernel_rfl) (by rw [hz]; kernel_rfl) (PutF P base AD AA n c k l x sl) base ?_ ?_
  · intro D i a W K hi hDi hd hS hK
    have hzW := hS.below.size
    have hbW : base ≤ W.heap.size := Nat.le_trans hbase hzW
    match i, hi, hDi, hd, hK with
    | 0, _, hDi, hd, hK =>
      rw [d0] at hK
      rw [hL.out, ← hL2.out]; refine wpOp_of_list' rfl ?_
      go_wp2_with fail
      refine hK _ _ ((below_box W _).mono hbW) (fun j u _ h => PutF.keep (fun j h => lst_mono h) hP hbW (by simp) (fun b hb => (below_box W _).block b hb) j u h) (.inr ⟨W.heap.size, rfl, hbW, heap_alloc_new W _⟩)
    | 1, _, hDi, hd, hK =>
      rw [d1] at hK
      have h0 := hS.slot (e := 0) (by kernel_rfl) p0
      have e0 := at_eval h0
      rw [hL.out, ← hL2.out]; refine wpOp_of_list' rfl ?_
      go_wp2_with fail
      refine hK _ W (Below.refl _ _) (fun j u _ h => PutF.keep (fun j h => lst_mono h) hP hbW (Nat.le_refl _) (fun _ _ => rfl) j u h) ?_
      exact rfl
    | 2, _, hDi, hd, hK =>
      rw [d2] at hK
      have h5 := hS.slot (e := 5) (by kernel_rfl) p5
      have e5 := at_eval h5
      rw [hL.out, ← hL2.out]; refine wpOp_of_list' rfl ?_
      go_wp2_with fail
      refine hK _ W (Below.refl _ _) (fun j u _ h => PutF.keep (fun j h => lst_mono h) hP hbW (Nat.le_refl _) (fun _ _ => rfl) j u h) ?_
      exact rfl
    | 3, _, hDi, hd, hK =>
      rw [d3] at hK
      obtain ⟨v35, h35, f35⟩ := hS.new 1 35 (by rw [hsz]; omega) (hd 1 (by kernel_rfl)) d1
      obtain rfl : v35 = .slice AD n c := f35
      have e35 := at_eval h35
      obtain ⟨v36, h36, f36⟩ := hS.new 2 36 (by rw [hsz]; omega) (hd 2 (by kernel_rfl)) d2
      obtain rfl : v36 = .int .i64 (k : Int) := f36
      have e36 := at_eval h36
      have j0 : (0 : Int) ≤ (k : Int) := by omega
      have j1 : (k : Int) ≤ (c : Int) := by omega
      rw [hL.out, ← hL2.out]; refine wpOp_of_list' rfl ?_
      cases AD
      all_goals go_wp2_with fail
      all_goals
       refine hK _ W (Below.refl _ _) (fun j u _ h => PutF.keep (fun j h => lst_mono h) hP hbW (Nat.le_refl _) (fun _ _ => rfl) j u h) ?_
       exact rfl
    | 4, _, hDi, hd, hK =>
      rw [d4] at hK
      obtain ⟨v34, h34, f34⟩ := hS.new 0 34 (by rw [hsz]; omega) (hd 0 (by kernel_rfl)) d0
      have e34 := at_eval h34
      obtain ⟨v37, h37, f37⟩ := hS.new 3 37 (by rw [hsz]; omega) (hd 3 (by kernel_rfl)) d3
      obtain rfl : v37 = .slice AD k c := f37
      have e37 := at_eval h37
      have hd4 : D 4 = false := hDi
      have n7 : D 7 = false := by
        cases q : D 7
        · rfl
        · have h := hS.closed 7 4 (by rw [hsz]; omega) q (by kernel_rfl)
          rw [hd4] at h; cases h
      have n11 : D 11 = false := by
        cases q : D 11
        · rfl
        · have h := hS.closed 11 7 (by rw [hsz]; omega) q (by kernel_rfl)
          rw [n7] at h; cases h
      have n12 : D 12 = false := by
        cases q : D 12
        · rfl
        · have h := hS.closed 12 11 (by rw [hsz]; omega) q (by kernel_rfl)
          rw [n11] at h; cases h
      obtain ⟨g, rfl, hg, hgc⟩ := f34.resolve_left (by rw [hd4]; exact Bool.false_ne_true)
      have hown : W.ownsRow base 24 5 (.slice (some ⟨g, 0, none⟩) 0 0) 0 [] := ⟨rfl, .inr ⟨g, 0, #[], rfl, hg, hgc, Nat.le_refl _, by unfold maxLen; omega, rfl, rfl⟩⟩
      have htW := ht.kept hS.below hP
      rw [hL.out, ← hL2.out]; refine wpOp_of_list' rfl ?_
      refine wpList_append_fms rfl (.tmp 34) (.tmp 37) rfl base _ 0 [] e34 hown hbW P _ (l.take k) e37 htW (by have := hn.out; simp; omega) ?_
      intro v' w' es hm hgd hown2 hgr
      have hpres := OwnP.grown (l := l.take k) hP (⟨hown, fun e h => by cases h⟩ : OwnP P base W _ []) hbW hbW (Below.refl _ _) hm hgd hown2 hgr
      refine hK v' w' (grown_below hgr hbW (fun b e => by cases e; exact hg)) (fun j u hj h => ?_) (.inr ⟨[] ++ es, by simpa using hm, hpres⟩)
      have hne : ∀ b, b ≠ g → b < W.heap.size → w'.heap[b]? = W.heap[b]? := fun b h1 h2 => hgr.block b h2 (fun e => h1 (Option.some.inj e))
      exact PutF.step4 hd4 n7 n11 n12 hgc hne j u hj h
    | 5, _, hDi, hd, hK =>
      rw [d5] at hK
      have h3 := hS.slot (e := 3) (by kernel_rfl) p3
      have e3 := at_eval h3
      obtain ⟨b0, b1, b2, b3, b4⟩ := hbx.below hS.below hG
      rw [Nat.zero_add] at b1 b2 b3 b4
      rw [hL.out, ← hL2.out]; refine wpOp_of_list' rfl ?_
      go_wp2_with fail
      refine hK _ W (Below.refl _ _) (fun j u _ h => PutF.keep (fun j h => lst_mono h) hP hbW (Nat.le_refl _) (fun _ _ => rfl) j u h) ?_
      exact rfl
    | 6, _, hDi, hd, hK =>
      rw [d6] at hK
      obtain ⟨v39, h39, f39⟩ := hS.new 5 39 (by rw [hsz]; omega) (hd 5 (by kernel_rfl)) d5
      obtain rfl : v39 = .agg #[.int .i64 x.op, .string x.name, .int .i64 x.val, .int .i64 x.bound, sl] := f39
      have e39 := at_eval h39
      rw [hL.out, ← hL2.out]; refine wpOp_of_list' rfl ?_
      obtain ⟨os, cs, rfl⟩ := hxs
      go_wp2_with fail
      refine hK _ _ ((below_box W _).mono hbW) (fun j u _ h => PutF.keep (fun j h => lst_mono h) hP hbW (by simp) (fun b hb => (below_box W _).block b hb) j u h) (.inr ⟨W.heap.size, rfl, hbW, heap_alloc_new W _⟩)
    | 7, _, hDi, hd, hK =>
      rw [d7] at hK
      obtain ⟨v38, h38, f38⟩ := hS.new 4 38 (by rw [hsz]; omega) (hd 4 (by kernel_rfl)) d4
      have e38 := at_eval h38
      obtain ⟨v40, h40, f40⟩ := hS.new 6 40 (by rw [hsz]; omega) (hd 6 (by kernel_rfl)) d6
      have e40 := at_eval h40
      have hd7 : D 7 = false := hDi
      have n11 : D 11 = false := by
        cases q : D 11
        · rfl
        · have h := hS.closed 11 7 (by rw [hsz]; omega) q (by kernel_rfl)
          rw [hd7] at h; cases h
      have n12 : D 12 = false := by
        cases q : D 12
        · rfl
        · have h := hS.closed 12 11 (by rw [hsz]; omega) q (by kernel_rfl)
          rw [n11] at h; cases h
      have y4 := hd 4 (by kernel_rfl)
      obtain ⟨es, hm1, hown⟩ := f38.resolve_left (by rw [hd7]; exact Bool.false_ne_true)
      obtain ⟨g, rfl, hg, hgc⟩ := f40.resolve_left (by rw [hd7]; exact Bool.false_ne_true)
      have haxW := hax.kept hS.below hP
      have hle : es.length = k := by have := congrArg List.length hm1; rw [List.length_map, List.length_take, Nat.min_eq_left (by have := hn.out; omega)] at this; exact this
      have hlt := hown.1.lt
      have hg5 : ∀ e ∈ [(x, sl)], Fits e.1 ∧ FArgsP P W e.2 e.1.args := fun e he => by
        obtain rfl : e = (x, sl) := by simpa using he
        exact ⟨hfx, haxW⟩
      rw [hL.out, ← hL2.out]; refine wpOp_of_list' rfl ?_
      refine wpList_append_es rfl (.tmp 38) (.tmp 40) rfl base _ es.length (fmCells es) e38 hown.1 hbW ⟨g, 0, none⟩ 1 [(x, sl)] e40 (news_at hgc) (fmCells_one hg5) (by have := hn.out; simp; omega) ?_
      intro v' w' hown2 hgr
      have hpres := OwnP.grown (l := [x]) hP hown hbW hbW (Below.refl _ _) rfl hg5 hown2 hgr
      refine hK v' w' (grown_below hgr hbW (fun b e => (hlt b e).1)) (fun j u hj h => ?_) (.inr ⟨es ++ [(x, sl)], by rw [List.map_append, hm1]; rfl, hpres⟩)
      exact PutF.step7 y4 hd7 n11 n12 j u hj h
    | 8, _, hDi, hd, hK =>
      rw [d8] at hK
      have h0 := hS.slot (e := 0) (by kernel_rfl) p0
      have e0 := at_eval h0
      rw [hL.out, ← hL2.out]; refine wpOp_of_list' rfl ?_
      go_wp2_with fail
      refine hK _ W (Below.refl _ _) (fun j u _ h => PutF.keep (fun j h => lst_mono h) hP hbW (Nat.le_refl _) (fun _ _ => rfl) j u h) ?_
      exact rfl
    | 9, _, hDi, hd, hK =>
      rw [d9] at hK
      have h5 := hS.slot (e := 5) (by kernel_rfl) p5
      have e5 := at_eval h5
      rw [hL.out, ← hL2.out]; refine wpOp_of_list' rfl ?_
      go_wp2_with fail
      refine hK _ W (Below.refl _ _) (fun j u _ h => PutF.keep (fun j h => lst_mono h) hP hbW (Nat.le_refl _) (fun _ _ => rfl) j u h) ?_
      exact rfl
    | 10, _, hDi, hd, hK =>
      rw [d10] at hK
      obtain ⟨v42, h42, f42⟩ := hS.new 8 42 (by rw [hsz]; omega) (hd 8 (by kernel_rfl)) d8
      obtain rfl : v42 = .slice AD n c := f42
      have e42 := at_eval h42
      obtain ⟨v43, h43, f43⟩ := hS.new 9 43 (by rw [hsz]; omega) (hd 9 (by kernel_rfl)) d9
      obtain rfl : v43 = .int .i64 (k : Int) := f43
      have e43 := at_eval h43
      have j0 : (0 : Int) ≤ (k : Int) := by omega
      have j1 : (k : Int) ≤ (n : Int) := by omega
      have j2 : n ≤ c := hc
      rw [hL.out, ← hL2.out]; refine wpOp_of_list' rfl ?_
      cases AD with
      | none =>
        obtain rfl : AA = none := hA.out
        go_wp2_with fail
        refine hK _ W (Below.refl _ _) (fun j u _ h => PutF.keep (fun j h => lst_mono h) hP hbW (Nat.le_refl _) (fun _ _ => rfl) j u h) ?_
        exact rfl
      | some ad =>
        have hA2 : (if c = k then some ad else some (ad.add (k * 5))) = AA := hA.out.symm
        go_wp2_with fail
        refine hK _ W (Below.refl _ _) (fun j u _ h => PutF.keep (fun j h => lst_mono h) hP hbW (Nat.le_refl _) (fun _ _ => rfl) j u h) ?_
        exact rfl
    | 11, _, hDi, hd, hK =>
      rw [d11] at hK
      obtain ⟨v41, h41, f41⟩ := hS.new 7 41 (by rw [hsz]; omega) (hd 7 (by kernel_rfl)) d7
      have e41 := at_eval h41
      obtain ⟨v44, h44, f44⟩ := hS.new 10 44 (by rw [hsz]; omega) (hd 10 (by kernel_rfl)) d10
      obtain rfl : v44 = .slice AA (n - k) (c - k) := f44
      have e44 := at_eval h44
      have hd11 : D 11 = false := hDi
      have n12 : D 12 = false := by
        cases q : D 12
        · rfl
        · have h := hS.closed 12 11 (by rw [hsz]; omega) q (by kernel_rfl)
          rw [hd11] at h; cases h
      have y7 := hd 7 (by kernel_rfl)
      have y4 := hS.closed 7 4 (by rw [hsz]; omega) y7 (by kernel_rfl)
      obtain ⟨es, hm1, hown⟩ := f41.resolve_left (by rw [hd11]; exact Bool.false_ne_true)
      have hrW := hr.kept hS.below hP
      have hle : es.length = k + 1 := by have := congrArg List.length hm1; rw [List.length_map, List.length_append, List.length_take, Nat.min_eq_left (by have := hn.out; omega)] at this; exact this
      have hlt := hown.1.lt
      rw [hL.out, ← hL2.out]; refine wpOp_of_list' rfl ?_
      refine wpList_append_fms rfl (.tmp 41) (.tmp 44) rfl base _ es.length (fmCells es) e41 hown.1 hbW P _ (l.drop k) e44 hrW (by have := hn.out; rw [List.length_drop]; omega) ?_
      intro v' w' es2 hm hgd hown2 hgr
      have hpres := OwnP.grown (l := l.drop k) hP hown hbW hbW (Below.refl _ _) hm hgd hown2 hgr
      refine hK v' w' (grown_below hgr hbW (fun b e => (hlt b e).1)) (fun j u hj h => ?_) ⟨es ++ es2, by rw [List.map_append, hm1, hm], hpres⟩
      exact PutF.step11 y4 y7 hd11 n12 j u hj h
    | 12, _, hDi, hd, hK =>
      rw [d12] at hK
      obtain ⟨v45, h45, f45⟩ := hS.new 11 45 (by rw [hsz]; omega) (hd 11 (by kernel_rfl)) d11
      have e45 := at_eval h45
      rw [hL.out, ← hL2.out]; refine wpOp_of_list' rfl ?_
      go_wp2_with fail
      refine hK _ W (Below.refl _ _) (fun j u _ h => PutF.keep (fun j h => lst_mono h) hP hbW (Nat.le_refl _) (fun _ _ => rfl) j u h) ?_
      exact f45
    | q + 13, hi, _, _, _ => exact absurd hi (by rw [hsz]; omega)
  · intro D x' W hall hB hx'
    have h12 := hx' 12 4 (by rw [hsz]; omega) d12
    obtain ⟨es, h1, h2⟩ := h12
    have := hend x' W es hB h1 h2
    have hr : List.range (opsAt Tryz.f100 6).size = [0, 1, 2, 3, 4, 5, 6, 7, 8, 9, 10, 11, 12] := by rw [hsz]; rfl
    rw [hr]
    simp only [putL, d0, d1, d2, d3, d4, d5, d6, d7, d8, d9, d10, d11, d12]
    exact this
theorem ins_lt {l : List Fm} {x : Fm} {k : Nat} (h : k < l.length) (q : cmpF l[k] x < 0) : l.take k ++ insF x (l.drop k) = l.take (k + 1) ++ insF x (l.drop (k + 1)) := by
  rw [List.drop_eq_getElem_cons h, insF, if_pos q, List.take_succ_eq_append_getElem h, List.append_assoc]; rfl
theorem ins_eq {l : List Fm} {x : Fm} {k : Nat} (h : k < l.length) (q : cmpF l[k] x = 0) : l.take k ++ insF x (l.drop k) = l := by
  rw [List.drop_eq_getElem_cons h, insF, if_neg (by omega), if_pos q, ← List.drop_eq_getElem_cons h, List.take_append_drop]
theorem ins_gt {l : List Fm} {x : Fm} {k : Nat} (h : k < l.length) (q : ¬ cmpF l[k] x < 0) (q2 : cmpF l[k] x ≠ 0) : l.take k ++ insF x (l.drop k) = l.take k ++ [x] ++ l.drop k := by
  rw [List.drop_eq_getElem_cons h, insF, if_neg q, if_neg q2, ← List.drop_eq_getElem_cons h, List.append_assoc]; rfl
theorem ins_end {l : List Fm} {x : Fm} {k : Nat} (h : l.length ≤ k) : l.take k ++ insF x (l.drop k) = l.take k ++ [x] ++ l.drop k := by
  rw [List.drop_of_length_le h, insF, List.append_nil]
theorem insF_length (x : Fm) : ∀ l : List Fm, (insF x l).length ≤ l.length + 1
  | [] => by rw [insF]; simp
  | y :: l => by
    rw [insF]
    have := insF_length x l
    split
    · simp; omega
    · split
      · simp
      · simp
theorem arg_cap {P : Nat → Prop} {w : World} {o : Option Addr} {c : Nat} {l : List Fm} (h : FArgsP P w (.slice o l.length c) l) : l.length ≤ c := by
  generalize hv : Value.slice o l.length c = v at h
  cases h with
  | nil o c => simp
  | cons => cases hv; assumption
theorem own_new {P : Nat → Prop} {w W : World} {base : Nat} {v : Value} {es : List (Fm × Value)} {l : List Fm} (h : OwnP P base W v es) (e : es.map Prod.fst = l) (hb : w.heap.size ≤ base) : FArgsP (NewP P w W) W v l := by
  have h2 : OwnFs P base W v es := ⟨h.1, fun e he => ⟨(h.2 e he).1, (h.2 e he).2.mono fun b h => .inl h⟩⟩
  rw [← e]
  exact h2.args.mono fun b h => h.elim .inl fun h => .inr ⟨by omega, h.2⟩
theorem refput_any (P : Nat → Prop) (u v : Value) (l : List Fm) (x : Fm) (w : World) (hl : l.length ≤ 2000) (hu : FArgsP P w u l) (hv : FAtP P w v x) (hP : ∀ b, P b → b < w.heap.size) :
    Calls Tryz.prog 100 #[u, v] w fun e w' => ∃ r, e = .returned r ∧ FArgsP (NewP P w w') w' r (insF x l) ∧ Below w.heap.size w w' := by
  obtain ⟨o, c, rfl⟩ := hu.shape
  obtain ⟨o2, c2, rfl, hfit, hA⟩ := hv.open
  have hlen := hu.len
  obtain ⟨W0, hW0, hB0, hc, hlt⟩ := fm_open w (.int .i64 x.op) (.string x.name) (.int .i64 x.val) (.int .i64 x.bound) (.slice o2 x.args.length c2)
  have hu0 := hidi (hu.kept hB0 hP)
  have hv0 := hidi (hv.kept hB0 hP)
  have hu' := hidi hu
  have hPW : ∀ b, P b → b < w.heap.size + 1 := fun b h => by have := hP b h; omega
  have hI0 : Hid (insF x l = l.take 0 ++ insF x (l.drop 0)) := by unfold Hid; simp
  clear hv hA
  obtain ⟨d0, d1, d2, d3, d4⟩ := hc.out
  rw [Nat.zero_add] at d1 d2 d3 d4
  go_enter Tryz.func100, Tryz.ntmps100
  go_wp2_with fail
  rw [hW0.out]
  go_loopw [5] (fun i wr => ∃ k : Nat, k ≤ l.length ∧ i = .int .i64 (k : Int) ∧ Hid (insF x l = l.take k ++ insF x (l.drop k)) ∧ Below W0.heap.size W0 wr) (fun i _ => l.length - (intOf i).toNat)
  case atStart => exact ⟨0, Nat.zero_le _, rfl, hI0, Below.refl _ _⟩
  case round =>
    clear d0 d1 d2 d3 d4
    obtain ⟨k, hk, rfl, hI, hB⟩ := hrel
    have hW := hB0.trans (hB.mono hB0.size)
    have hz0 := hB0.size
    have hzB := hB.size
    obtain ⟨d0, d1, d2, d3, d4⟩ := hc.out.later hB hlt
    rw [Nat.zero_add] at d1 d2 d3 d4
    by_cases hlt2 : k < l.length
    · obtain ⟨b, off, rfl, hbb, hat⟩ := FArgsP.at hu (by omega)
      obtain ⟨sl, hcy, hF⟩ := hat k hlt2
      have hL1 := hidi (ins_lt (x := x) hlt2)
      have hL2 := hidi (ins_eq (x := x) hlt2)
      have hL3 := hidi (ins_gt (x := x) hlt2)
      have htk := hidi (hu.take k hk)
      have hdk := hidi (hu.drop k hlt2)
      have hcl : l.length ≤ c := by
        generalize hvv : Value.slice (some ⟨b, off, none⟩) l.length c = v at hu
        cases hu with
        | nil o c => simp at hlt2
        | cons => cases hvv; assumption
      generalize l[k] = y at *
      obtain ⟨o9, c9, hfv, -, -⟩ := hF.open
      obtain rfl : sl = .slice o9 y.args.length c9 := by simpa [fval] using hfv
      obtain ⟨e0, e1, e2, e3, e4⟩ := hcy.below hW (hP b hbb)
      have j1 : (0 : Int) ≤ k := by omega
      have j2 : (k : Int) < l.length := by omega
      have hF' := hidi hF
      have hcy' := hidi hcy
      clear hfv hat hF hcy hu
      by_cases q : cmpF y x < 0
      · have hI2 : Hid (insF x l = l.take (k + 1) ++ insF x (l.drop (k + 1))) := by unfold Hid; rw [hI.out, hL1.out q]
        clear hL1 hL2 hL3
        go_wp2_with fail
        go_still_tail 10, (by kernel_rfl)
        go_wp2_with (go_at_call 20; refine (refcompare_any y x w.heap.size _ _ _ ((hF'.out.kept hW.drew hP).mono hP) ((hv0.out.kept hB.drew (fun b h => by have := hP b h; omega)).mono hP) hW.drew.size).mono ?_; rintro e w1 ⟨rfl, hb1⟩; have hBn := hB.drew.trans (hb1.mono hB.drew.size); clear hb1)
        go_roundw
        case rel => exact ⟨k + 1, by omega, by go_num, hI2, hBn⟩
        case measure => simp [intOf]; omega
      · go_wp2_with fail
        go_still_tail 10, (by kernel_rfl)
        go_wp2_with (go_at_call 20; refine (refcompare_any y x w.heap.size _ _ _ ((hF'.out.kept hW.drew hP).mono hP) ((hv0.out.kept hB.drew (fun b h => by have := hP b h; omega)).mono hP) hW.drew.size).mono ?_; rintro e w1 ⟨rfl, hb1⟩; have hBn := hB.drew.trans (hb1.mono hB.drew.size); clear hb1 e0 e1 e2 e3 e4 d0 d1 d2 d3 d4; obtain ⟨d0, d1, d2, d3, d4⟩ := hc.out.later hBn hlt; rw [Nat.zero_add] at d1 d2 d3 d4; have hWn := hB0.trans (hBn.mono hB0.size); obtain ⟨e0, e1, e2, e3, e4⟩ := hcy'.out.below hWn (hP b hbb))
        cases q2 : sameF y x
        · have q3 : cmpF y x ≠ 0 := by unfold sameF at q2; rw [beq_eq_false_iff_ne] at q2; exact q2
          have hI2 : Hid (insF x l = l.take k ++ [x] ++ l.drop k) := by unfold Hid; rw [hI.out, hL3.out q q3]
          clear hL1 hL2 hL3 hW hB hzB q3
          go_still_tail 10, (by kernel_rfl)
          go_wp2_with (go_at_call 32; refine (refsame_any y x w.heap.size _ _ _ ((hF'.out.kept hWn.drew hP).mono hP) ((hv0.out.kept hBn.drew (fun b h => by have := hP b h; omega)).mono hP) hWn.drew.size).mono ?_; rintro e w2 ⟨rfl, hb2⟩; rw [q2]; have hBm := hBn.drew.trans (hb2.mono hBn.drew.size); clear hb2)
          have hzm := hBm.size
          have hWm := hB0.trans (hBm.mono hB0.size)
          obtain ⟨A, hA1, hA2⟩ : ∃ A : Addr, (if c = k then (some ⟨b, off, none⟩ : Option Addr) else some ((⟨b, off, none⟩ : Addr).add (k * 5))) = some A ∧ Hid (∀ W, Below w.heap.size w W → FArgsP P W (.slice (some A) (l.length - k) (c - k)) (l.drop k)) := by
            refine ⟨⟨b, off + k * 5, none⟩, by rw [if_neg (by omega), Addr.add_lit], fun W hW => hdk.out.kept hW hP⟩
          obtain ⟨g0, g1, g2, g3, g4⟩ := hc.out.later hBm hlt
          rw [Nat.zero_add] at g1 g2 g3 g4
          have hcc : Cells5 w2 w.heap.size 0 (.int .i64 x.op) (.string x.name) (.int .i64 x.val) (.int .i64 x.bound) (.slice o2 x.args.length c2) := hc.out.later hBm hlt
          have hvm := hv0.out.kept hBm (fun b h => by have := hP b h; omega)
          obtain ⟨sl2, hsl, hfx, hax⟩ := hvm
          obtain rfl : sl2 = .slice o2 x.args.length c2 := by simpa [fval] using hsl.symm
          refine put_r6 (AA := some A) (P := P) (l := l) (x := x) (base := w.heap.size + 1) (n := l.length) (k := k) (c := c) _ _ _ (by rfl) (by rfl) (by rfl) (by rfl) (by omega) (by omega) hPW hcc hfx hax (htk.out.kept hWm hP) (hA2.out _ hWm) hk (hidi rfl) hl hcl (hidi hA1.symm) ?_
          intro x' W es r1 r2 r3
          simp only [Act.put, List.setIfInBounds_toArray, List.set_cons_zero, List.set_cons_succ]
          go_wp2_with fail
          go_ret
          exact ⟨_, rfl, own_new r3 (r2.trans hI2.out.symm) (by omega), hWm.trans (r1.mono (by omega))⟩
        · have q3 : cmpF y x = 0 := by unfold sameF at q2; exact eq_of_beq q2
          have hI2 : Hid (insF x l = l) := by unfold Hid; rw [hI.out, hL2.out q3]
          clear hL1 hL2 hL3 hW hB hzB q3
          go_still_tail 10, (by kernel_rfl)
          go_wp2_with (go_at_call 32; refine (refsame_any y x w.heap.size _ _ _ ((hF'.out.kept hWn.drew hP).mono hP) ((hv0.out.kept hBn.drew (fun b h => by have := hP b h; omega)).mono hP) hWn.drew.size).mono ?_; rintro e w2 ⟨rfl, hb2⟩; rw [q2]; have hBm := hBn.drew.trans (hb2.mono hBn.drew.size); clear hb2)
          go_ret
          have hWm := hB0.trans (hBm.mono hB0.size)
          exact ⟨_, rfl, by rw [hI2.out]; exact (hu'.out.kept hWm hP).mono fun b h => .inl h, hWm⟩
    · have hI2 : Hid (insF x l = l.take k ++ [x] ++ l.drop k) := by unfold Hid; rw [hI.out, ins_end (by omega)]
      go_wp2_with fail
      go_quiet (fail)
      go_wp2_with fail
      go_quiet (fail)
      go_wp2_with fail
      obtain rfl : k = l.length := by omega
      have hcl := arg_cap hu
      have hvm : ∀ W, Below W0.heap.size W0 W → FArgsP P W (.slice o2 x.args.length c2) x.args := fun W hB => by
        obtain ⟨sl2, hsl, -, hax⟩ := hv0.out.kept hB (fun b h => by have := hP b h; omega)
        obtain rfl : sl2 = .slice o2 x.args.length c2 := by simpa [fval] using hsl.symm
        exact hax
      cases o with
      | none =>
        obtain rfl : l = [] := by
          generalize hvv : Value.slice none l.length c = v at hu
          cases hu with
          | nil o c => rfl
          | cons => cases hvv
        refine put_r6 (AA := none) (P := P) (l := []) (x := x) (base := w.heap.size + 1) (n := 0) (k := 0) (c := c) _ _ _ (by rfl) (by rfl) (by rfl) (by rfl) (by omega) (by exact Nat.le_trans hlt (below_drewN (below_drewN hB _) _).size) hPW (by exact hc.out.later (below_drewN (below_drewN hB _) _) hlt) hfit (by exact hvm _ (below_drewN (below_drewN hB _) _)) (.nil _ _) (.nil _ _) (Nat.le_refl _) (hidi rfl) hl (Nat.zero_le _) (hidi rfl) ?_
        intro x' W es r1 r2 r3
        simp only [Act.put, List.setIfInBounds_toArray, List.set_cons_zero, List.set_cons_succ]
        go_wp2_with fail
        go_ret
        exact ⟨_, rfl, own_new (base := w.heap.size + 1) r3 (r2.trans hI2.out.symm) (by omega), (hB0.trans ((below_drewN (below_drewN hB _) _).mono hB0.size)).trans (r1.mono (by omega))⟩
      | some ad =>
        obtain ⟨A, hA1⟩ : ∃ A : Addr, (if c = l.length then (some ad : Option Addr) else some (ad.add (l.length * 5))) = some A := by split; exact ⟨_, rfl⟩; exact ⟨_, rfl⟩
        refine put_r6 (AD := some ad) (AA := some A) (P := P) (l := l) (x := x) (base := w.heap.size + 1) (n := l.length) (k := l.length) (c := c) _ _ _ (by rfl) (by rfl) (by rfl) (by rfl) (by omega) (by exact Nat.le_trans hlt (below_drewN (below_drewN hB _) _).size) hPW (by exact hc.out.later (below_drewN (below_drewN hB _) _) hlt) hfit (by exact hvm _ (below_drewN (below_drewN hB _) _)) (by exact (hu.take l.length (Nat.le_refl _)).kept (hB0.trans ((below_drewN (below_drewN hB _) _).mono hB0.size)) hP) (by rw [List.drop_of_length_le (Nat.le_refl _), Nat.sub_self]; exact .nil _ _) (Nat.le_refl _) (hidi rfl) hl hcl (hidi hA1.symm) ?_
        intro x' W es r1 r2 r3
        simp only [Act.put, List.setIfInBounds_toArray, List.set_cons_zero, List.set_cons_succ]
        go_wp2_with fail
        go_ret
        exact ⟨_, rfl, own_new (base := w.heap.size + 1) r3 (r2.trans hI2.out.symm) (by omega), (hB0.trans ((below_drewN (below_drewN hB _) _).mono hB0.size)).trans (r1.mono (by omega))⟩

end Go.Proofs.YtbnnjbfbifihaaaGreatDoor
