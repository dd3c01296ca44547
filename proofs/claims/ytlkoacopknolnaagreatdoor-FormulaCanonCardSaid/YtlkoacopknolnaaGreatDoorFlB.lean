/-
  The law's reversed: the region that appends a reversed argument to the new formula's arguments.
-/
import Derived.Test.YtlkoacopknolnaaGreatDoorFjX
import Derived.Test.YtlkoacopknolnaaGreatDoorFjC
import Derived.Test.YtlkoacopknolnaaGreatDoorGi
import Derived.Test.YtlkoacopknolnaaGreatDoorFiT
namespace Go.Proofs.YtlkoacopknolnaaGreatDoor
open Go.RowKit

theorem put_none2 (a : Act) (v : Value) : a.put none v = a := rfl
/-- what reversed hands back, as a contract -/
def RevOk (x : Fm) : Prop := ∀ (P : Nat → Prop) (v : Value) (w : World), FAtP P w v x → (∀ b, P b → b < w.heap.size) →
  Calls Tryz.prog 47 #[v] w fun e w' => ∃ r, e = .returned r ∧ FAtP (NewP P w w') w' r (revF x) ∧ Below w.heap.size w w'

set_option maxRecDepth 100000 in
set_option maxHeartbeats 4000000 in
theorem rev_r10 {P : Nat → Prop} {x : Fm} {es : List (Fm × Value)} {A G N base b off n c j uc : Nat} {uo : Option Addr} {sl g0 g1 g2 g3 : Value} (a0 : Act) (W0 w : World) (Q : Exit → Act → World → Prop) (hz : a0.tmps.size = 73) (p1 : a0.tmps[(1 : Nat)]? = some (.pointer (some ⟨A, 0, none⟩))) (p3 : a0.tmps[(3 : Nat)]? = some (.pointer (some ⟨G, 0, none⟩))) (p6 : a0.tmps[(6 : Nat)]? = some (.int .i64 (j : Int)))
    (hA : A < base) (hG : G < base) (hN : N ≤ G) (hbase : base ≤ W0.heap.size) (hb : b < W0.heap.size) (hjn : j < n) (hPb : ∀ b, P b → b < base) (hPG : ∀ b, P b → b ≠ G) (hB0 : Below N w W0)
    (cA : W0.cell? ⟨A, 4, none⟩ = some (.slice (some ⟨b, off, none⟩) n c)) (rG : Hid (W0.heap[G]? = some (.cells #[g0, g1, g2, g3, .slice uo es.length uc] 24 (0, 0))))
    (e : Cells5 W0 b (off + j * 5) (.int .i64 x.op) (.string x.name) (.int .i64 x.val) (.int .i64 x.bound) sl) (hx : FAtP P W0 (.agg #[.int .i64 x.op, .string x.name, .int .i64 x.val, .int .i64 x.bound, sl]) x) (ih : RevOk x)
    (hown : OwnFs P base W0 (.slice uo es.length uc) es) (hes : es.length ≤ 1000)
    (hend : ∀ (x' : Nat → Value) (W : World) (v' sl' : Value), OwnFs P base W v' (es ++ [(revF x, sl')]) → Hid (W.heap[G]? = some (.cells #[g0, g1, g2, g3, v'] 24 (0, 0))) → (∀ b', b' < base → b' ≠ G → W.heap[b']? = W0.heap[b']?) → Below N w W → base ≤ W.heap.size → Q .normal (((((((((((a0.put (some 33) (x' 0)).put (some 34) (x' 1)).put (some 35) (x' 2)).put (some 36) (x' 3)).put (some 37) (x' 4)).put (some 38) (x' 5)).put (some 39) (x' 6)).put (some 40) (x' 7)).put (some 41) (x' 8)).put (some 42) (x' 9)).put (some 43) (x' 10)) W) :
    (Code.region 10 (opsAt Tryz.f47 10) true).wp Tryz.prog Q a0 W0 := by
  have d0 : dstOf (opsAt Tryz.f47 10) 0 = some 33 := by kernel_rfl
  have d1 : dstOf (opsAt Tryz.f47 10) 1 = some 34 := by kernel_rfl
  have d2 : dstOf (opsAt Tryz.f47 10) 2 = some 35 := by kernel_rfl
  have d3 : dstOf (opsAt Tryz.f47 10) 3 = some 36 := by kernel_rfl
  have d4 : dstOf (opsAt Tryz.f47 10) 4 = some 37 := by kernel_rfl
  have d5 : dstOf (opsAt Tryz.f47 10) 5 = some 38 := by kernel_rfl
  have d6 : dstOf (opsAt Tryz.f47 10) 6 = some 39 := by kernel_rfl
  have d7 : dstOf (opsAt Tryz.f47 10) 7 = some 40 := by kernel_rfl
  have d8 : dstOf (opsAt Tryz.f47 10) 8 = some 41 := by kernel_rfl
  have d9 : dstOf (opsAt Tryz.f47 10) 9 = some 42 := by kernel_rfl
  have d10 : dstOf (opsAt Tryz.f47 10) 10 = some 43 := by kernel_rfl
  have d11 : dstOf (opsAt Tryz.f47 10) 11 = none := by kernel_rfl
  have hsz : (opsAt Tryz.f47 10).size = 12 := by kernel_rfl
  have cG := cell_of_row W0 G 4 _ _ _ rG.out
  simp only [List.getElem?_toArray, List.getElem?_cons_zero, List.getElem?_cons_succ] at cG
  obtain ⟨L, hL⟩ : ∃ L, Hid ((opsAt Tryz.f47 10) = L) := ⟨_, hidi rfl⟩
  have hL2 := hL.out
  unfold opsAt Tryz.f47 at hL2
  simp only [findRegion, Nat.reduceBEq, if_true, if_false, Bool.false_eq_true, Option.getD_some] at hL2
  replace hL2 := hidi hL2
  obtain ⟨Ok, hOk⟩ : ∃ Ok : Nat → Prop, Ok = fun b => P b ∨ W0.heap.size ≤ b := ⟨_, rfl⟩
  have hOk1 : ∀ b, P b → Ok b := fun b h => by rw [hOk]; exact .inl h
  have hOk2 : ∀ b, W0.heap.size ≤ b → Ok b := fun b h => by rw [hOk]; exact .inr h
  have hGl : G < W0.heap.size := Nat.lt_of_lt_of_le hG hbase
  have hAl : A < W0.heap.size := Nat.lt_of_lt_of_le hA hbase
  have hPl : ∀ b, P b → b < W0.heap.size := fun b h => Nat.lt_of_lt_of_le (hPb b h) hbase
  obtain ⟨fs, hfs⟩ : ∃ fs : Nat → Fq, fs = (fun i => match i with
      | 0 => .valF (.pointer (some ⟨G, 4, none⟩))
      | 1 => .valF (.slice uo es.length uc)
      | 2 => .valF (.pointer (some ⟨A, 4, none⟩))
      | 3 => .valF (.slice (some ⟨b, off, none⟩) n c)
      | 4 => .valF (.int .i64 (j : Int))
      | 5 => .valF (.pointer (some ⟨b, off + j * 5, none⟩))
      | 6 => .valF (.agg #[.int .i64 x.op, .string x.name, .int .i64 x.val, .int .i64 x.bound, sl])
      | 7 => .fmF (revF x)
      | 8 => .fmsF [revF x]
      | 9 => .free
      | 10 => .valF (.pointer (some ⟨G, 4, none⟩))
      | 11 => .free
      | _ => .free) := ⟨_, rfl⟩
  have step : ∀ i a W (K : Act → World → Prop), i < 7 ∨ i = 10 → Below W0.heap.size W0 W → (∀ e, (∀ j, j < (opsAt Tryz.f47 10).size → dstOf (opsAt Tryz.f47 10) j ≠ some e) → a.tmps[e]? = a0.tmps[e]?) → (∀ j d, (depsOf (opsAt Tryz.f47 10) i).contains j = true → dstOf (opsAt Tryz.f47 10) j = some d → ∃ v, a.tmps[d]? = some v ∧ (fs j).holds Ok v W) →
      (∀ v, (fs i).holds Ok v W → K (a.put (dstOf (opsAt Tryz.f47 10) i) v) W) → wpOp Tryz.prog (opsAt Tryz.f47 10) Q i K a W := by
    intro i a W K hi hB hold hdep hK
    rw [hfs] at hdep hK
    match i, hi, hdep, hK with
    | 0, _, hdep, hK =>
      rw [d0] at hK
      have h3 := old_slot hold (e := 3) (by kernel_rfl) p3
      have e3 := at_eval h3
      rw [hL.out, ← hL2.out]; refine wpOp_of_list' rfl ?_
      go_wp2_with fail
      exact rfl
    | 1, _, hdep, hK =>
      rw [d1] at hK
      obtain ⟨v33, h33, f33⟩ := hdep 0 33 (by kernel_rfl) d0
      obtain rfl : v33 = .pointer (some ⟨G, 4, none⟩) := f33
      have e33 := at_eval h33
      have b4 := (hB.cell (p := ⟨G, 4, none⟩) hGl).trans cG
      rw [hL.out, ← hL2.out]; refine wpOp_of_list' rfl ?_
      go_wp2_with fail
      exact rfl
    | 2, _, hdep, hK =>
      rw [d2] at hK
      have h1 := old_slot hold (e := 1) (by kernel_rfl) p1
      have e1 := at_eval h1
      rw [hL.out, ← hL2.out]; refine wpOp_of_list' rfl ?_
      go_wp2_with fail
      exact rfl
    | 3, _, hdep, hK =>
      rw [d3] at hK
      obtain ⟨v35, h35, f35⟩ := hdep 2 35 (by kernel_rfl) d2
      obtain rfl : v35 = .pointer (some ⟨A, 4, none⟩) := f35
      have e35 := at_eval h35
      have b4 := (hB.cell (p := ⟨A, 4, none⟩) hAl).trans cA
      rw [hL.out, ← hL2.out]; refine wpOp_of_list' rfl ?_
      go_wp2_with fail
      exact rfl
    | 4, _, hdep, hK =>
      rw [d4] at hK
      have h6 := old_slot hold (e := 6) (by kernel_rfl) p6
      have e6 := at_eval h6
      rw [hL.out, ← hL2.out]; refine wpOp_of_list' rfl ?_
      go_wp2_with fail
      exact rfl
    | 5, _, hdep, hK =>
      rw [d5] at hK
      obtain ⟨v36, h36, f36⟩ := hdep 3 36 (by kernel_rfl) d3
      obtain rfl : v36 = .slice (some ⟨b, off, none⟩) n c := f36
      have e36 := at_eval h36
      obtain ⟨v37, h37, f37⟩ := hdep 4 37 (by kernel_rfl) d4
      obtain rfl : v37 = .int .i64 (j : Int) := f37
      have e37 := at_eval h37
      have j1 : (0 : Int) ≤ j := by omega
      have j2 : (j : Int) < n := by omega
      rw [hL.out, ← hL2.out]; refine wpOp_of_list' rfl ?_
      go_wp2_with fail
      exact rfl
    | 6, _, hdep, hK =>
      rw [d6] at hK
      obtain ⟨v38, h38, f38⟩ := hdep 5 38 (by kernel_rfl) d5
      obtain rfl : v38 = .pointer (some ⟨b, off + j * 5, none⟩) := f38
      have e38 := at_eval h38
      obtain ⟨b0, b1, b2, b3, b4⟩ := e.below hB hb
      rw [hL.out, ← hL2.out]; refine wpOp_of_list' rfl ?_
      go_wp2_with fail
      exact rfl
    | 10, _, hdep, hK =>
      rw [d10] at hK
      have h3 := old_slot hold (e := 3) (by kernel_rfl) p3
      have e3 := at_eval h3
      rw [hL.out, ← hL2.out]; refine wpOp_of_list' rfl ?_
      go_wp2_with fail
      exact rfl
    | 7, hi, _, _ => exact absurd hi (by omega)
    | 8, hi, _, _ => exact absurd hi (by omega)
    | 9, hi, _, _ => exact absurd hi (by omega)
    | k + 11, hi, _, _ => exact absurd hi (by omega)
  refine wp_region_tail (by kernel_rfl) (by kernel_rfl) (by kernel_rfl) (by rw [hz]; kernel_rfl) (by kernel_rfl) fs Ok 9 11 42 (by rw [hsz]; omega) (by rw [hsz]; omega) (by omega) d9 (by rw [hfs]; kernel_rfl) (by kernel_rfl)
    (fun v W => ∃ sl', OwnFs P base W v (es ++ [(revF x, sl')]) ∧ (∀ b', b' < base → W.heap[b']? = W0.heap[b']?) ∧ Below base W0 W)
    (fun v W => ∃ sl', OwnFs P base W v (es ++ [(revF x, sl')]) ∧ Hid (W.heap[G]? = some (.cells #[g0, g1, g2, g3, v] 24 (0, 0))) ∧ (∀ b', b' < base → b' ≠ G → W.heap[b']? = W0.heap[b']?) ∧ Below N w W ∧ base ≤ W.heap.size) ?_ ?_ ?_ ?_ ?_ d11
  · intro i a W K hi h1 h2 hS hK
    rw [hsz] at hi
    by_cases hi7 : i < 7 ∨ i = 10
    · exact step i a W K hi7 hS.below hS.old hS.new fun v hv => hK v W hv (Below.refl _ _)
    · by_cases h7 : i = 7
      · subst h7
        rw [d7, hfs] at hK
        rw [hfs] at hS
        obtain ⟨v39, h39, f39⟩ := hS.got 6 rfl (by kernel_rfl) d6
        obtain rfl : v39 = .agg #[.int .i64 x.op, .string x.name, .int .i64 x.val, .int .i64 x.bound, sl] := f39
        have e39 := at_eval h39
        rw [hL.out, ← hL2.out]; refine wpOp_of_list' rfl ?_
        have hxW := hx.kept hS.below fun b hb => hPl b hb
        have hzW := hS.below.size
        go_wp2_with fail
        refine (ih P _ W hxW fun b hb => Nat.lt_of_lt_of_le (hPl b hb) hzW).mono ?_
        rintro e W2 ⟨r, rfl, hN, hb⟩
        have hb' := hb.size
        have hq : (Fq.fmF (revF x)).holds Ok r W2 := FAtP.mono hN fun b hbb => by
          rcases hbb with hbb | ⟨h1, h2⟩
          · exact ⟨Nat.lt_of_lt_of_le (hPl b hbb) (Nat.le_trans hzW hb'), hOk1 b hbb⟩
          · exact ⟨h2, hOk2 b (Nat.le_trans hzW h1)⟩
        go_wp2_with fail
        exact hK _ _ hq hb
      · have h8 : i = 8 := by omega
        subst h8
        rw [d8, hfs] at hK
        rw [hfs] at hS
        obtain ⟨v40, h40, f40⟩ := hS.got 7 rfl (by kernel_rfl) d7
        obtain ⟨o40, c40, rfl, hf40, ha40⟩ := FAtP.open f40
        have e40 := at_eval h40
        rw [hL.out, ← hL2.out]; refine wpOp_of_list' rfl ?_
        have hzW := hS.below.size
        have hzW2 : W.heap.size < (W.alloc (.cells #[.int .i64 (revF x).op, .string (revF x).name, .int .i64 (revF x).val, .int .i64 (revF x).bound, .slice o40 (revF x).args.length c40] 24)).heap.size := by simp
        have hq : (Fq.fmsF [revF x]).holds Ok (.slice (some ⟨W.heap.size, 0, none⟩) 1 1) (W.alloc (.cells #[.int .i64 (revF x).op, .string (revF x).name, .int .i64 (revF x).val, .int .i64 (revF x).bound, .slice o40 (revF x).args.length c40] 24)) :=
          args_one ⟨hzW2, hOk2 _ hzW⟩ (heap_alloc_new W _) hf40 ((FArgsP.kept ha40 (below_box W _) fun b hb => hb.1).mono fun b hb => ⟨Nat.lt_trans hb.1 hzW2, hb.2⟩)
        go_wp2_with fail
        exact hK _ _ hq (below_box _ _)
  · intro i a W K hi h1 h2 hs hsize hold hdep hnr _ hK
    rw [hsz] at hi
    by_cases h10 : i = 10
    · subst h10
      rw [d10, hfs] at hK
      have h3 := old_slot hold (e := 3) (by kernel_rfl) p3
      have e3 := at_eval h3
      clear hdep hnr hs hsize hold hi h1 h2
      rw [hL.out, ← hL2.out]; refine wpOp_of_list' rfl ?_
      go_wp2_with fail
      exact rfl
    · exfalso
      have : ∀ i, i < 12 → i ≠ 9 → i ≠ 11 → i ≠ 10 → (reachL (opsAt Tryz.f47 10) 8 (depsOf (opsAt Tryz.f47 10) 9)).contains i = true := by
        intro i
        match i with
        | 0 => intro _ _ _ _; kernel_rfl
        | 1 => intro _ _ _ _; kernel_rfl
        | 2 => intro _ _ _ _; kernel_rfl
        | 3 => intro _ _ _ _; kernel_rfl
        | 4 => intro _ _ _ _; kernel_rfl
        | 5 => intro _ _ _ _; kernel_rfl
        | 6 => intro _ _ _ _; kernel_rfl
        | 7 => intro _ _ _ _; kernel_rfl
        | 8 => intro _ _ _ _; kernel_rfl
        | 9 => intro _ h1 h2 h3; omega
        | 10 => intro _ h1 h2 h3; omega
        | 11 => intro _ h1 h2 h3; omega
        | k + 12 => intro h; omega
      rw [this i hi h1 h2 h10] at hnr
      cases hnr
  · intro a W K hS hK
    rw [hfs] at hS
    obtain ⟨v34, h34, f34⟩ := hS.got 1 rfl (by kernel_rfl) d1
    obtain rfl : v34 = .slice uo es.length uc := f34
    have e34 := at_eval h34
    obtain ⟨v41, h41, f41⟩ := hS.got 8 rfl (by kernel_rfl) d8
    replace f41 : FArgsP (fun b => b < W.heap.size ∧ Ok b) W v41 [revF x] := f41
    obtain ⟨o8, c8, rfl⟩ := f41.shape
    have e41 := at_eval h41
    obtain ⟨b8, off8, rfl, hb8, hat⟩ := FArgsP.at f41 (by simp)
    obtain ⟨sl8, hc8, sl9, heq, hf8, ha8⟩ := hat 0 (by simp)
    obtain rfl : sl8 = sl9 := by simpa [fval] using heq
    rw [Nat.zero_mul, Nat.add_zero] at hc8
    obtain ⟨q0, q1, q2, q3, q4⟩ := hc8
    have hownW : OwnFs P base W (.slice uo es.length uc) es := hown.keep hS.below.size fun b hb => hS.below.block b (hb.elim (hPl b) fun h => h.2)
    have hzW := hS.below.size
    have hbW : base ≤ W.heap.size := Nat.le_trans hbase hzW
    have hlt := hown.lt
    have hnews : ∀ (j : Nat) (u : Value), (fmCells [(revF x, sl8)])[j]? = some u → W.cell? ((⟨b8, off8, none⟩ : Addr).add j) = some u := by
      intro j u hu
      rw [Addr.add_lit]
      match j, hu with
      | 0, hu => cases hu; exact q0
      | 1, hu => cases hu; exact q1
      | 2, hu => cases hu; exact q2
      | 3, hu => cases hu; exact q3
      | 4, hu => cases hu; exact q4
      | k + 5, hu => simp [fmCells] at hu
    rw [hL.out, ← hL2.out]; refine wpOp_of_list' rfl ?_
    refine wpList_append_one rfl (.tmp 34) (.tmp 41) rfl base _ es.length (fmCells es) e34 hownW.1 hbW ⟨b8, off8, none⟩ c8 (revF x) sl8 e41 hnews (fmCells_one (P := fun b => b < W.heap.size ∧ Ok b) (w := W) (es := [(revF x, sl8)]) fun e he => by rcases List.mem_singleton.1 he with rfl; exact ⟨hf8, ha8⟩) (by omega) ?_
    intro v' w' g1' g2' g3'
    refine hK v' w' ⟨sl8, hownW.snoc hf8 (ha8.mono fun b hb => ?_) hPb hbW (Below.refl _ _) g1' g2' (g3'.imp id fun h => ⟨_, h, Nat.le_refl _⟩), fun b' hb' => ?_, ?_⟩
    · rw [hOk] at hb
      rcases hb with ⟨hb1, hb2 | hb2⟩
      · exact .inl hb2
      · exact .inr ⟨Nat.le_trans hbase hb2, hb1, fun e => by have := (hlt b e).2; omega⟩
    · have := hownW.lt
      rw [g2'.block b' (by omega) (fun e => by have := (this b' e.symm).1; omega)]
      exact hS.below.block b' (by omega)
    · have := hownW.lt
      refine ⟨g2'.os.trans hS.below.os, g2'.tape.trans hS.below.tape, g2'.output.trans hS.below.output, Nat.le_trans hzW g2'.size, fun b' hb' => ?_⟩
      rw [g2'.block b' (by omega) (fun e => by have := (this b' e.symm).1; omega)]
      exact hS.below.block b' (by omega)
  · rintro a W K v - hold hdep hda ⟨sl8, hown2, hblk, hBW⟩ hK
    obtain ⟨v43, h43, f43⟩ := hdep 10 43 (by rw [hsz]; omega) (by omega) (by rw [hfs]; rfl) d10
    rw [hfs] at f43
    obtain rfl : v43 = .pointer (some ⟨G, 4, none⟩) := f43
    have e43 := at_eval h43
    have e42 := at_eval hda
    obtain ⟨o2, c2, rfl⟩ := hown2.shape
    have hv2 : (es ++ [(revF x, sl8)]).length = es.length + 1 := by simp
    rw [hv2] at hown2 hda e42 hK
    have rG2 := hidi ((hblk G hG).trans rG.out)
    have b4 := cell_of_row W G 4 _ _ _ rG2.out
    simp only [List.getElem?_toArray, List.getElem?_cons_zero, List.getElem?_cons_succ] at b4
    have ff : W.frozen? ⟨G, 4, none⟩ = false := by simp [World.frozen?, rG2.out]
    rw [d11] at hK
    have hother : ∀ b', b' ≠ G → (W.setCell ⟨G, 4, none⟩ (.slice o2 (es.length + 1) c2)).heap[b']? = W.heap[b']? := fun b' h => Below.heap_setCell _ _ _ _ h
    have hzs : (W.setCell ⟨G, 4, none⟩ (.slice o2 (es.length + 1) c2)).heap.size = W.heap.size := by simp only [World.setCell, Array.size_modify]
    have hfin : ∃ sl', OwnFs P base (W.setCell ⟨G, 4, none⟩ (.slice o2 (es.length + 1) c2)) (.slice o2 (es.length + 1) c2) (es ++ [(revF x, sl')]) ∧ Hid ((W.setCell ⟨G, 4, none⟩ (.slice o2 (es.length + 1) c2)).heap[G]? = some (.cells #[g0, g1, g2, g3, .slice o2 (es.length + 1) c2] 24 (0, 0))) ∧ (∀ b', b' < base → b' ≠ G → (W.setCell ⟨G, 4, none⟩ (.slice o2 (es.length + 1) c2)).heap[b']? = W0.heap[b']?) ∧ Below N w (W.setCell ⟨G, 4, none⟩ (.slice o2 (es.length + 1) c2)) ∧ base ≤ (W.setCell ⟨G, 4, none⟩ (.slice o2 (es.length + 1) c2)).heap.size := by
      have hbz := Nat.le_trans hbase hBW.size
      refine ⟨sl8, hown2.keep (by rw [hzs]; exact Nat.le_refl _) (fun b' hb' => hother b' (fun e => ?_)), ?_, fun b' h1 h2 => (hother b' h2).trans (hblk b' h1), ?_, by rw [hzs]; exact hbz⟩
      · subst e
        rcases hb' with hb' | ⟨hb', -⟩
        · exact hPG _ hb' rfl
        · omega
      · unfold Hid
        simp only [World.setCell, Array.getElem?_modify]
        simp [rG2.out]
      · exact (hB0.trans (hBW.mono (by omega))).setCell (p := ⟨G, 4, none⟩) hN _
    obtain ⟨o3, ho3⟩ : ∃ o3, Hid (o2 = o3) := ⟨o2, hidi rfl⟩
    have hfin' := hidi hfin
    clear hfin
    rw [hL.out, ← hL2.out]; refine wpOp_of_list' rfl ?_
    clear hown2 hown hx ih hother hzs hblk hdep
    have hK' := hidi hK
    clear hK
    go_wp2_with fail
    exact hK'.out _ hfin'.out
  · rintro x' W ⟨sl8, q1, q2, q3, q4, q5⟩
    have hl := hend x' W _ sl8 q1 q2 q3 q4 q5
    have hr : List.range (opsAt Tryz.f47 10).size = [0, 1, 2, 3, 4, 5, 6, 7, 8, 9, 10, 11] := by rw [hsz]; rfl
    rw [hr]
    simp only [putL, d0, d1, d2, d3, d4, d5, d6, d7, d8, d9, d10, d11, put_none2]
    exact hl

end Go.Proofs.YtlkoacopknolnaaGreatDoor
