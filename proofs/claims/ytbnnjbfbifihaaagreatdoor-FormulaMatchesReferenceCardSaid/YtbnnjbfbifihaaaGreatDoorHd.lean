/-
  Contracts that FormulaMatchesReference stands on, part Hd.
-/
import Derived.Test.YtbnnjbfbifihaaaGreatDoorHc
import Derived.Test.YtbnnjbfbifihaaaGreatDoorHb
import Derived.Deep.AppendLies
import Derived.Test.YtbnnjbfbifihaaaGreatDoorGg
import Derived.Test.YtbnnjbfbifihaaaGreatDoorHa
namespace Go.Proofs.YtbnnjbfbifihaaaGreatDoor
open Go.RowKit
set_option maxRecDepth 100000
set_option maxHeartbeats 80000000

def RefForm (f : Fm) : Prop := ∀ (neg : Bool) (P : Nat → Prop) (v : Value) (w : World), FAtP P w v f → (∀ b, P b → b < w.heap.size) →
  Calls Tryz.prog 68 #[v, .bool neg] w fun e w' => ∃ r, e = .returned r ∧ FAtP (NewP P w w') w' r (formP f neg) ∧ Below w.heap.size w w'
inductive Tk : Nat → Prop
  | mk (n : Nat) : Tk n
theorem op_ne {a : Int} {k : Int} (h : ¬ a = k) : (a == k) = false := by simpa using h
theorem op_is {a : Int} {k : Int} (h : a = k) : (a == k) = true := by simpa using h
theorem formPL_len : ∀ (l : List Fm) (p q : Bool), (formPL l p q).length = l.length
  | [], _, _ => by rw [formPL]
  | x :: l, p, q => by rw [formPL, formPL_same]; simp
theorem form_take {l : List Fm} {k : Nat} (c : Bool) (h : k < l.length) : (l.map fun x => formP x c).take (k + 1) = (l.map fun x => formP x c).take k ++ [formP l[k] c] := by
  rw [List.take_succ_eq_append_getElem (by simp; exact h), List.getElem_map]
theorem formPL_at {l : List Fm} {k : Nat} (p q : Bool) (h : k < l.length) : (formPL l p q).take (k + 1) = (formPL l p q).take k ++ [formP l[k] (if k = 0 then p else q)] := by
  cases l with
  | nil => simp at h
  | cons x l =>
    rw [formPL, formPL_same]
    cases k with
    | zero => simp
    | succ k =>
      have hk : k < l.length := by simpa using h
      rw [List.take_succ_cons, List.take_succ_cons, form_take q hk, if_neg (Nat.succ_ne_zero k)]
      rfl
theorem ops_is {a K : Int} (h : a = K) : (a == 3) = (K == 3) ∧ (a == 4) = (K == 4) ∧ (a == 7) = (K == 7) ∧ (a == 11) = (K == 11) ∧ (a == 12) = (K == 12) ∧ (a == 13) = (K == 13) ∧ (a == 14) = (K == 14) ∧ (a == 15) = (K == 15) ∧ (a == 16) = (K == 16) ∧ (a == 17) = (K == 17) ∧ (a == 18) = (K == 18) ∧ (a == 19) = (K == 19) := by
  subst h; exact ⟨rfl, rfl, rfl, rfl, rfl, rfl, rfl, rfl, rfl, rfl, rfl, rfl⟩
theorem ops_not {a : Int} (h : ¬ (a = 4 ∨ a = 11 ∨ a = 12 ∨ a = 13 ∨ a = 14 ∨ a = 18 ∨ a = 19)) (o3 : ¬ a = 3) (o7 : ¬ a = 7) (o15 : ¬ a = 15) (o16 : ¬ a = 16) (o17 : ¬ a = 17) : (a == 3) = false ∧ (a == 4) = false ∧ (a == 7) = false ∧ (a == 11) = false ∧ (a == 12) = false ∧ (a == 13) = false ∧ (a == 14) = false ∧ (a == 15) = false ∧ (a == 16) = false ∧ (a == 17) = false ∧ (a == 18) = false ∧ (a == 19) = false :=
  ⟨op_ne o3, op_ne (by omega), op_ne o7, op_ne (by omega), op_ne (by omega), op_ne (by omega), op_ne (by omega), op_ne o15, op_ne o16, op_ne o17, op_ne (by omega), op_ne (by omega)⟩
theorem refform_plain {a : Int} {n : ByteArray} {v b : Int} {A L : List Fm} (h : ¬ (a = 4 ∨ a = 11 ∨ a = 12 ∨ a = 13 ∨ a = 14 ∨ a = 18 ∨ a = 19)) (o3 : ¬ a = 3) (o7 : ¬ a = 7) (o15 : ¬ a = 15) (o16 : ¬ a = 16) (o17 : ¬ a = 17) (neg : Bool) : formN a n v b A L neg = .mk (if neg then dualI a else a) ⟨#[]⟩ 0 0 L := by
  unfold formN
  rw [if_neg o3, if_neg (by omega), if_neg o7, if_neg (by omega), if_neg (by omega), if_neg (by omega)]
  cases neg <;> simp [o15, o16, o17, mkOp, dualN, dualI]
theorem dualI_in {o : Int} (h : 1 ≤ o ∧ o ≤ 19) : I64 (dualI o) := by
  rcases op_cases h with o | o | o | o | o | o | o | o | o | o | o | o | o | o | o | o | o | o | o
  all_goals (rw [o]; exact i64_of (by decide) (by decide))
theorem refform_w (f : Fm)  (ih : Hid (∀ g ∈ f.args, RefForm g)) (hl9 : f.args.length ≤ 1000) (L : List Fm) (p q neg : Bool) (hp : Hid ((neg != (f.op == 4 || f.op == 7)) = p)) (hq : Hid ((neg != (f.op == 4)) = q)) (hL : Hid (formPL f.args p q = L)) (hcn : Hid (formP f neg = formN f.op f.name f.val f.bound f.args L neg)) (h2 : Hid (0 ≤ f.val)) (h3 : Hid (f.val ≤ fVal f.op.toNat)) (h4 : Hid (0 ≤ f.bound)) (h5 : Hid (f.bound ≤ fBound f.op.toNat)) (h6 : Hid (fLeast f.op.toNat ≤ f.args.length)) (hdI : Hid (I64 (dualI f.op)))
    (P : Nat → Prop) (v : Value) (w : World) (hv : FAtP P w v f) (hP : ∀ b, P b → b < w.heap.size) :
    Calls Tryz.prog 68 #[v, .bool neg] w fun e w' => ∃ r, e = .returned r ∧ FAtP (NewP P w w') w' r (formP f neg) ∧ Below w.heap.size w w' := by
  obtain ⟨o, c, rfl, hfit, hA⟩ := hv.open
  obtain ⟨W0, hW0, hB0, hc, hc2, hlt⟩ := fm2_open w (.int .i64 f.op) (.string f.name) (.int .i64 f.val) (.int .i64 f.bound) (.slice o f.args.length c) (.int .i64 0) (.string ⟨#[]⟩) (.int .i64 0) (.int .i64 0) (.slice none 0 0)
  have hlen := hA.len
  have hres : Hid (Res5 W0 (w.heap.size + 1)) := by
    have h2 := heap_alloc_new (w.alloc (.cells #[.int .i64 f.op, .string f.name, .int .i64 f.val, .int .i64 f.bound, .slice o f.args.length c] 24)) (.cells #[.int .i64 0, .string ⟨#[]⟩, .int .i64 0, .int .i64 0, .slice none 0 0] 24)
    rw [show (w.alloc (.cells #[.int .i64 f.op, .string f.name, .int .i64 f.val, .int .i64 f.bound, .slice o f.args.length c] 24)).heap.size = w.heap.size + 1 by simp] at h2
    rw [hW0.out] at h2
    exact ⟨_, _, _, _, _, h2⟩
  have hPW : ∀ b, P b → b < W0.heap.size := fun b h => by have := hP b h; omega
  obtain ⟨d0, d1, d2, d3, d4⟩ := hc.out
  rw [Nat.zero_add] at d1 d2 d3 d4
  go_enter Tryz.func68, Tryz.ntmps68
  go_wp2_with fail
  rw [hW0.out]
  go_loopw [5, 6] (fun a i wr => ∃ (k : Nat) (es : List (Fm × Value)) (uo : Option Addr) (uc : Nat), k ≤ f.args.length ∧ a = .slice uo k uc ∧ i = .int .i64 (k : Int) ∧ Hid (es.length = k) ∧ Hid (es.map Prod.fst = L.take k) ∧ OwnFs P W0.heap.size wr (.slice uo k uc) es ∧ Below W0.heap.size W0 wr) (fun _ i _ => f.args.length - (intOf i).toNat)
  case atStart => exact ⟨0, [], none, 0, Nat.zero_le _, rfl, rfl, hidi rfl, hidi (by simp), ownFs_nil _ _ _, Below.refl _ _⟩
  case round =>
    clear d0 d1 d2 d3 d4
    obtain ⟨k, es, uo, uc, hk, rfl, rfl, hek, hem, hown, hB⟩ := hrel
    obtain ⟨d0, d1, d2, d3, d4⟩ := hc.out.later hB (by omega)
    rw [Nat.zero_add] at d1 d2 d3 d4
    have hW := hB0.trans (hB.mono hB0.size)
    by_cases hlt2 : k < f.args.length
    · obtain ⟨b, off, rfl, hbb, hat⟩ := FArgsP.at hA (by omega)
      obtain ⟨sl, hcy, hF⟩ := hat k hlt2
      have ihk := ih.out _ (List.getElem_mem hlt2)
      have hLk := hidi (formPL_at p q hlt2)
      generalize f.args[k] = y at *
      rw [hL.out] at hLk
      obtain ⟨e0, e1, e2, e3, e4⟩ := hcy.below hW (hP b hbb)
      have j1 : (0 : Int) ≤ k := by omega
      have j2 : (k : Int) < f.args.length := by omega
      obtain ⟨Y, hY⟩ : ∃ Y, Hid (formP y (if k = 0 then p else q) = Y) := ⟨_, hidi rfl⟩
      have ihk2 := hidi (ihk (if k = 0 then p else q) P (fval y sl) wr (hF.kept hW hP) (fun b h => Nat.lt_of_lt_of_le (hP b h) hW.size))
      rw [hY.out] at ihk2 hLk
      clear ihk hat hF
      by_cases o4 : f.op = 4
      have b4 := op_is o4
      have hs : (if k = 0 then p else q) = !neg := by rw [← hp.out, ← hq.out, b4]; cases neg <;> simp
      clear o4
      rotate_left
      have b4 := op_ne o4
      by_cases o7 : f.op = 7
      have b7 := op_is o7
      clear o7
      by_cases k0 : k = 0
      have j0 : ((k : Int) == 0) = true := by rw [k0]; rfl
      have hs : (if k = 0 then p else q) = !neg := by rw [if_pos k0, ← hp.out, b4, b7]; cases neg <;> rfl
      replace k0 := hidi k0
      rotate_left
      have j0 : ((k : Int) == 0) = false := beq_eq_false_iff_ne.2 (by omega)
      have hs : (if k = 0 then p else q) = neg := by rw [if_neg k0, ← hq.out, b4]; cases neg <;> rfl
      replace k0 := hidi k0
      rotate_left
      have b7 := op_ne o7
      have hs : (if k = 0 then p else q) = neg := by rw [← hp.out, ← hq.out, b4, b7]; cases neg <;> simp
      rotate_left
      all_goals
       rw [hs] at ihk2
       clear hs
       go_wp2_with fail
       refine ihk2.out.mono ?_
       rintro e w1 ⟨r, rfl, hN, hb1⟩
       obtain ⟨o1, c1, rfl, hf1, hA1⟩ := hN.open
       have hB1 := hB.trans (hb1.mono hB.size)
       have hzw := hB.size
       have hz1 := hb1.size
       have hown1 : OwnFs P W0.heap.size w1 (.slice uo k uc) es := hown.keep hb1.size (fun b hb => hb1.block b (by rcases hb with h | ⟨-, h⟩; exact Nat.lt_of_lt_of_le (hPW b h) hzw; exact h))
       have hNA : FArgsP (Away P W0.heap.size w1 (.slice uo k uc)) w1 (.slice o1 Y.args.length c1) Y.args := hA1.mono fun b hb => by
         rcases hb with hb | ⟨h1, h2⟩
         · exact .inl hb
         · exact .inr ⟨by omega, h2, fun e => by have := (hown.lt b e).2; omega⟩
       have hownr := hown1.1
       rw [hek.out] at hownr
       have hkl : k ≤ 1000 := by omega
       obtain ⟨i0, hi, hi0, hi1, hi2⟩ := info_parts Tryz.fmInfo
       have hown1' := hidi hown1
       have hNA' := hidi hNA
       have hownlt := hidi hown.lt
       have hPW' := hidi hPW
       clear ihk2 hv hA hcy e0 e1 e2 e3 e4 d0 d1 d2 d3 d4 hown hNA hown1 hA1 hN hPW hP
       go_wp2_with (at_builtin; refine wpList_append_lies _ rfl (.tmp 28) (.tmp 38) 22 rfl W0.heap.size 24 i0 (.agg #[.int .i64 0, .string ⟨#[]⟩, .int .i64 0, .int .i64 0, .slice none 0 0]) 5 64 Tryz.underlying22 hi hi0 hi1 hi2 rfl (by decide) (.slice uo k uc) k (fmCells es) rfl (hownr.alloc _) ⟨w1.heap.size, 0, none⟩ 1 1 [.int .i64 Y.op, .string Y.name, .int .i64 Y.val, .int .i64 Y.bound, .slice o1 Y.args.length c1] rfl rfl ?c1 ?c2 (by decide) ?c3 ?c4 ?c5 (w1.heap.size + 1) ?c6 ?_)
       case c1 => exact World.news_of_block (heap_alloc_new w1 _)
       case c2 => simp [Value.oneCell']
       case c3 => unfold maxLen; omega
       case c4 => omega
       case c5 => simp; omega
       case c6 => simp
       intro gg cap w2 hown2 hgrow hat hlt3
       have hB12 : Below w1.heap.size w1 (w1.alloc (.cells #[.int .i64 Y.op, .string Y.name, .int .i64 Y.val, .int .i64 Y.bound, .slice o1 Y.args.length c1] 24)) := below_box w1 _
       have hsn : OwnFs P W0.heap.size w2 (.slice (some ⟨gg, 0, none⟩) (k + 1) cap) (es ++ [(Y, .slice o1 Y.args.length c1)]) := by
         refine hown1'.out.snoc hf1 hNA'.out hPW'.out (by omega) hB12 (by rw [hek.out]; exact hown2) hgrow ?_
         rcases hat with h | h
         · exact .inl h.symm
         · exact .inr ⟨gg, rfl, by omega⟩
       have hB2 : Below W0.heap.size W0 w2 := by
         have h12 := hB1.trans (hB12.mono (Nat.le_trans hzw hz1))
         refine ⟨hgrow.os.trans h12.os, hgrow.tape.trans h12.tape, hgrow.output.trans h12.output, Nat.le_trans h12.size hgrow.size, fun b hb => ?_⟩
         exact (hgrow.block b (Nat.lt_of_lt_of_le hb h12.size) (fun e => by have := (hownlt.out _ e.symm).1; omega)).trans (h12.block b hb)
       have r8 : Hid ((es ++ [(Y, Value.slice o1 Y.args.length c1)]).map Prod.fst = L.take (k + 1)) := by
         unfold Hid
         rw [hLk.out, List.map_append, hem.out]
         rfl
       have r10 : Hid ((es ++ [(Y, Value.slice o1 Y.args.length c1)]).length = k + 1) := by unfold Hid; rw [List.length_append, hek.out]; rfl
       have hsn' := hidi hsn
       have hB2' := hidi hB2
       clear hsn hB2 hown2 hgrow hat hownr hB12
       go_wp2_with fail
       go_roundw
       case rel => exact ⟨k + 1, _, some ⟨gg, 0, none⟩, cap, by omega, rfl, by go_num, r10, r8, hsn'.out, hB2'.out⟩
       case measure => simp [intOf]; omega
    · obtain rfl : k = f.args.length := by omega
      have hzw := hB.size
      have hargs : Hid (FArgsP (fun b => P b ∨ (W0.heap.size ≤ b ∧ b < wr.heap.size)) wr (.slice uo f.args.length uc) L) := by
        have h1 := hown.args
        rw [hem.out, List.take_of_length_le (by rw [← hL.out, formPL_len]; exact Nat.le_refl _)] at h1
        exact h1
      have hPl : ∀ b, (fun b => P b ∨ (W0.heap.size ≤ b ∧ b < wr.heap.size)) b → b < wr.heap.size := fun b hb => by rcases hb with h | h; exact Nat.lt_of_lt_of_le (hPW b h) hzw; exact h.2
      have hhr : Hid (Res5 wr (w.heap.size + 1)) := by obtain ⟨a1, a2, a3, a4, a5, hr⟩ := hres.out; exact ⟨a1, a2, a3, a4, a5, (hB.block _ (by omega)).trans hr⟩
      clear ih
      have hzw3 := hW.size
      have hPm : ∀ b, P b → b ≠ w.heap.size + 1 := fun b h => by have := hP b h; omega
      by_cases h1 : f.op = 4 ∨ f.op = 11 ∨ f.op = 12 ∨ f.op = 13 ∨ f.op = 14 ∨ f.op = 18 ∨ f.op = 19
      have hl0 : 0 < f.args.length := by
        have h6' := h6.out
        rcases h1 with o | o | o | o | o | o | o
        all_goals (rw [o] at h6'; have h7 : (1 : Int) ≤ (f.args.length : Int) := h6'; omega)
      have hLl : L.length = f.args.length := by rw [← hL.out, formPL_len]
      have hh := hargs.out
      rw [← hLl] at hh
      obtain ⟨gb, go, rfl, hgb, hgt⟩ := FArgsP.at hh (by omega)
      obtain ⟨x, t, hx⟩ : ∃ x t, Hid (x :: t = L) := by
        cases L with
        | nil => simp at hLl; omega
        | cons x t => exact ⟨x, t, hidi rfl⟩
      obtain ⟨sl, hcy, hF⟩ := hgt 0 (by omega)
      simp only [← hx.out, List.getElem_cons_zero] at hcy hF
      rw [Nat.zero_mul, Nat.add_zero] at hcy
      obtain ⟨o1, c1, hfv, hf1, hA1⟩ := hF.open
      obtain rfl : sl = .slice o1 x.args.length c1 := by simpa [fval] using hfv
      have hgl := hPl gb hgb
      have j1 : (0 : Int) < f.args.length := by omega
      have hcy' := hidi hcy
      have hF' := hidi hF
      clear hh hgt hfv hA1 hcy hF hLl
      cases neg
      rcases h1 with o | o | o | o | o | o | o
      have hE : Hid (formP f false = x) := hidi (by rw [hcn.out]; rw [o, ← hx.out]; rfl)
      obtain ⟨b3, b4, b7, b11, b12, b13, b14, b15, b16, b17, b18, b19⟩ := ops_is (K := 4) o
      clear o
      have tk := Tk.mk 2
      obtain ⟨e0, e1, e2, e3, e4⟩ := hcy'.out
      have hfin := hF'
      rotate_left
      have hE : Hid (formP f false = Fm.mk 9 ⟨#[]⟩ 0 0 [fTrue, x]) := hidi (by rw [hcn.out]; rw [o, ← hx.out]; simp [formN, mkOp, fTrue])
      obtain ⟨b3, b4, b7, b11, b12, b13, b14, b15, b16, b17, b18, b19⟩ := ops_is (K := 11) o
      clear o
      have tk := Tk.mk 3
      clear hown hargs hv hA
      focus (go_wp2_with fail)
      refine ref_r24 (P := fun b => P b ∨ (W0.heap.size ≤ b ∧ b < wr.heap.size)) (N := w.heap.size) (x := x) (J := Fm.mk 9 ⟨#[]⟩ 0 0 [fTrue, x]) _ wr w _ (by rfl) (by rfl) (by rfl) (hidi rfl) (by omega) (by omega) (by omega) hgl hW (fun b hb => ⟨by rcases hb with hb | hb; (have := hP b hb; omega); omega, hPl b hb⟩) hcy'.out hF'.out hhr.out ?_
      rotate_left
      have hE : Hid (formP f false = Fm.mk 10 ⟨#[]⟩ 0 0 [fFalse, x]) := hidi (by rw [hcn.out]; rw [o, ← hx.out]; simp [formN, mkOp, fFalse])
      obtain ⟨b3, b4, b7, b11, b12, b13, b14, b15, b16, b17, b18, b19⟩ := ops_is (K := 12) o
      clear o
      have tk := Tk.mk 3
      clear hown hargs hv hA
      focus (go_wp2_with fail)
      refine ref_r25 (P := fun b => P b ∨ (W0.heap.size ≤ b ∧ b < wr.heap.size)) (N := w.heap.size) (x := x) (J := Fm.mk 10 ⟨#[]⟩ 0 0 [fFalse, x]) _ wr w _ (by rfl) (by rfl) (by rfl) (hidi rfl) (by omega) (by omega) (by omega) hgl hW (fun b hb => ⟨by rcases hb with hb | hb; (have := hP b hb; omega); omega, hPl b hb⟩) hcy'.out hF'.out hhr.out ?_
      rotate_left
      have hE : Hid (formP f false = repF 6 f.bound.toNat x) := hidi (by rw [hcn.out]; rw [o, ← hx.out]; simp [formN, mkOp])
      obtain ⟨b3, b4, b7, b11, b12, b13, b14, b15, b16, b17, b18, b19⟩ := ops_is (K := 13) o
      have hop := hidi o
      clear o
      have tk := Tk.mk 3
      have hbd : f.bound ≤ 9 := by have h := h5.out; rw [hop.out] at h; exact h
      have h40 := h4.out
      have hbm : Hid (f.bound = (f.bound.toNat : Int)) := hidi (by omega)
      have hm9 : f.bound.toNat ≤ 1000 := by omega
      clear h40 hbd
      rw [hbm.out] at d3
      clear hown hargs hv hA
      focus (go_wp2_with fail)
      refine ref_r29 (P := fun b => P b ∨ (W0.heap.size ≤ b ∧ b < wr.heap.size)) (N := w.heap.size) (x := x) (J := repF 6 f.bound.toNat x) _ wr w _ (by rfl) (by rfl) (by rfl) (hidi rfl) (by omega) (by omega) (by omega) hgl hW (fun b hb => ⟨by rcases hb with hb | hb; (have := hP b hb; omega); omega, hPl b hb⟩) (A := w.heap.size) (m := f.bound.toNat) (by omega) d3 hm9 (by rfl) hcy'.out hF'.out hhr.out ?_
      rotate_left
      have hE : Hid (formP f false = repF 5 f.bound.toNat x) := hidi (by rw [hcn.out]; rw [o, ← hx.out]; simp [formN, mkOp])
      obtain ⟨b3, b4, b7, b11, b12, b13, b14, b15, b16, b17, b18, b19⟩ := ops_is (K := 14) o
      have hop := hidi o
      clear o
      have tk := Tk.mk 3
      have hbd : f.bound ≤ 9 := by have h := h5.out; rw [hop.out] at h; exact h
      have h40 := h4.out
      have hbm : Hid (f.bound = (f.bound.toNat : Int)) := hidi (by omega)
      have hm9 : f.bound.toNat ≤ 1000 := by omega
      clear h40 hbd
      rw [hbm.out] at d3
      clear hown hargs hv hA
      focus (go_wp2_with fail)
      refine ref_r30 (P := fun b => P b ∨ (W0.heap.size ≤ b ∧ b < wr.heap.size)) (N := w.heap.size) (x := x) (J := repF 5 f.bound.toNat x) _ wr w _ (by rfl) (by rfl) (by rfl) (hidi rfl) (by omega) (by omega) (by omega) hgl hW (fun b hb => ⟨by rcases hb with hb | hb; (have := hP b hb; omega); omega, hPl b hb⟩) (A := w.heap.size) (m := f.bound.toNat) (by omega) d3 hm9 (by rfl) hcy'.out hF'.out hhr.out ?_
      rotate_left
      have hE : Hid (formP f false = Fm.mk 16 ⟨#[]⟩ 0 0 [fTrue, x]) := hidi (by rw [hcn.out]; rw [o, ← hx.out]; simp [formN, mkOp, mkLate, fTrue])
      obtain ⟨b3, b4, b7, b11, b12, b13, b14, b15, b16, b17, b18, b19⟩ := ops_is (K := 18) o
      clear o
      have tk := Tk.mk 3
      clear hown hargs hv hA
      focus (go_wp2_with fail)
      refine ref_r34 (P := fun b => P b ∨ (W0.heap.size ≤ b ∧ b < wr.heap.size)) (N := w.heap.size) (x := x) (J := Fm.mk 16 ⟨#[]⟩ 0 0 [fTrue, x]) _ wr w _ (by rfl) (by rfl) (by rfl) (hidi rfl) (by omega) (by omega) (by omega) hgl hW (fun b hb => ⟨by rcases hb with hb | hb; (have := hP b hb; omega); omega, hPl b hb⟩) hcy'.out hF'.out hhr.out ?_
      rotate_left
      have hE : Hid (formP f false = Fm.mk 17 ⟨#[]⟩ 1 0 [fFalse, x]) := hidi (by rw [hcn.out]; rw [o, ← hx.out]; simp [formN, mkOp, mkLate, fFalse])
      obtain ⟨b3, b4, b7, b11, b12, b13, b14, b15, b16, b17, b18, b19⟩ := ops_is (K := 19) o
      clear o
      have tk := Tk.mk 3
      clear hown hargs hv hA
      focus (go_wp2_with fail)
      refine ref_r35 (P := fun b => P b ∨ (W0.heap.size ≤ b ∧ b < wr.heap.size)) (N := w.heap.size) (x := x) (J := Fm.mk 17 ⟨#[]⟩ 1 0 [fFalse, x]) _ wr w _ (by rfl) (by rfl) (by rfl) (hidi rfl) (by omega) (by omega) (by omega) hgl hW (fun b hb => ⟨by rcases hb with hb | hb; (have := hP b hb; omega); omega, hPl b hb⟩) hcy'.out hF'.out hhr.out ?_
      rotate_left
      rcases h1 with o | o | o | o | o | o | o
      have hE : Hid (formP f true = x) := hidi (by rw [hcn.out]; rw [o, ← hx.out]; rfl)
      obtain ⟨b3, b4, b7, b11, b12, b13, b14, b15, b16, b17, b18, b19⟩ := ops_is (K := 4) o
      clear o
      have tk := Tk.mk 2
      obtain ⟨e0, e1, e2, e3, e4⟩ := hcy'.out
      have hfin := hF'
      rotate_left
      have hE : Hid (formP f true = Fm.mk 10 ⟨#[]⟩ 0 0 [fFalse, x]) := hidi (by rw [hcn.out]; rw [o, ← hx.out]; simp [formN, mkOp, fFalse])
      obtain ⟨b3, b4, b7, b11, b12, b13, b14, b15, b16, b17, b18, b19⟩ := ops_is (K := 11) o
      clear o
      have tk := Tk.mk 3
      clear hown hargs hv hA
      focus (go_wp2_with fail)
      refine ref_r25 (P := fun b => P b ∨ (W0.heap.size ≤ b ∧ b < wr.heap.size)) (N := w.heap.size) (x := x) (J := Fm.mk 10 ⟨#[]⟩ 0 0 [fFalse, x]) _ wr w _ (by rfl) (by rfl) (by rfl) (hidi rfl) (by omega) (by omega) (by omega) hgl hW (fun b hb => ⟨by rcases hb with hb | hb; (have := hP b hb; omega); omega, hPl b hb⟩) hcy'.out hF'.out hhr.out ?_
      rotate_left
      have hE : Hid (formP f true = Fm.mk 9 ⟨#[]⟩ 0 0 [fTrue, x]) := hidi (by rw [hcn.out]; rw [o, ← hx.out]; simp [formN, mkOp, fTrue])
      obtain ⟨b3, b4, b7, b11, b12, b13, b14, b15, b16, b17, b18, b19⟩ := ops_is (K := 12) o
      clear o
      have tk := Tk.mk 3
      clear hown hargs hv hA
      focus (go_wp2_with fail)
      refine ref_r24 (P := fun b => P b ∨ (W0.heap.size ≤ b ∧ b < wr.heap.size)) (N := w.heap.size) (x := x) (J := Fm.mk 9 ⟨#[]⟩ 0 0 [fTrue, x]) _ wr w _ (by rfl) (by rfl) (by rfl) (hidi rfl) (by omega) (by omega) (by omega) hgl hW (fun b hb => ⟨by rcases hb with hb | hb; (have := hP b hb; omega); omega, hPl b hb⟩) hcy'.out hF'.out hhr.out ?_
      rotate_left
      have hE : Hid (formP f true = repF 5 f.bound.toNat x) := hidi (by rw [hcn.out]; rw [o, ← hx.out]; simp [formN, mkOp])
      obtain ⟨b3, b4, b7, b11, b12, b13, b14, b15, b16, b17, b18, b19⟩ := ops_is (K := 13) o
      have hop := hidi o
      clear o
      have tk := Tk.mk 3
      have hbd : f.bound ≤ 9 := by have h := h5.out; rw [hop.out] at h; exact h
      have h40 := h4.out
      have hbm : Hid (f.bound = (f.bound.toNat : Int)) := hidi (by omega)
      have hm9 : f.bound.toNat ≤ 1000 := by omega
      clear h40 hbd
      rw [hbm.out] at d3
      clear hown hargs hv hA
      focus (go_wp2_with fail)
      refine ref_r30 (P := fun b => P b ∨ (W0.heap.size ≤ b ∧ b < wr.heap.size)) (N := w.heap.size) (x := x) (J := repF 5 f.bound.toNat x) _ wr w _ (by rfl) (by rfl) (by rfl) (hidi rfl) (by omega) (by omega) (by omega) hgl hW (fun b hb => ⟨by rcases hb with hb | hb; (have := hP b hb; omega); omega, hPl b hb⟩) (A := w.heap.size) (m := f.bound.toNat) (by omega) d3 hm9 (by rfl) hcy'.out hF'.out hhr.out ?_
      rotate_left
      have hE : Hid (formP f true = repF 6 f.bound.toNat x) := hidi (by rw [hcn.out]; rw [o, ← hx.out]; simp [formN, mkOp])
      obtain ⟨b3, b4, b7, b11, b12, b13, b14, b15, b16, b17, b18, b19⟩ := ops_is (K := 14) o
      have hop := hidi o
      clear o
      have tk := Tk.mk 3
      have hbd : f.bound ≤ 9 := by have h := h5.out; rw [hop.out] at h; exact h
      have h40 := h4.out
      have hbm : Hid (f.bound = (f.bound.toNat : Int)) := hidi (by omega)
      have hm9 : f.bound.toNat ≤ 1000 := by omega
      clear h40 hbd
      rw [hbm.out] at d3
      clear hown hargs hv hA
      focus (go_wp2_with fail)
      refine ref_r29 (P := fun b => P b ∨ (W0.heap.size ≤ b ∧ b < wr.heap.size)) (N := w.heap.size) (x := x) (J := repF 6 f.bound.toNat x) _ wr w _ (by rfl) (by rfl) (by rfl) (hidi rfl) (by omega) (by omega) (by omega) hgl hW (fun b hb => ⟨by rcases hb with hb | hb; (have := hP b hb; omega); omega, hPl b hb⟩) (A := w.heap.size) (m := f.bound.toNat) (by omega) d3 hm9 (by rfl) hcy'.out hF'.out hhr.out ?_
      rotate_left
      have hE : Hid (formP f true = Fm.mk 17 ⟨#[]⟩ 1 0 [fFalse, x]) := hidi (by rw [hcn.out]; rw [o, ← hx.out]; simp [formN, mkOp, mkLate, fFalse])
      obtain ⟨b3, b4, b7, b11, b12, b13, b14, b15, b16, b17, b18, b19⟩ := ops_is (K := 18) o
      clear o
      have tk := Tk.mk 3
      clear hown hargs hv hA
      focus (go_wp2_with fail)
      refine ref_r35 (P := fun b => P b ∨ (W0.heap.size ≤ b ∧ b < wr.heap.size)) (N := w.heap.size) (x := x) (J := Fm.mk 17 ⟨#[]⟩ 1 0 [fFalse, x]) _ wr w _ (by rfl) (by rfl) (by rfl) (hidi rfl) (by omega) (by omega) (by omega) hgl hW (fun b hb => ⟨by rcases hb with hb | hb; (have := hP b hb; omega); omega, hPl b hb⟩) hcy'.out hF'.out hhr.out ?_
      rotate_left
      have hE : Hid (formP f true = Fm.mk 16 ⟨#[]⟩ 0 0 [fTrue, x]) := hidi (by rw [hcn.out]; rw [o, ← hx.out]; simp [formN, mkOp, mkLate, fTrue])
      obtain ⟨b3, b4, b7, b11, b12, b13, b14, b15, b16, b17, b18, b19⟩ := ops_is (K := 19) o
      clear o
      have tk := Tk.mk 3
      clear hown hargs hv hA
      focus (go_wp2_with fail)
      refine ref_r34 (P := fun b => P b ∨ (W0.heap.size ≤ b ∧ b < wr.heap.size)) (N := w.heap.size) (x := x) (J := Fm.mk 16 ⟨#[]⟩ 0 0 [fTrue, x]) _ wr w _ (by rfl) (by rfl) (by rfl) (hidi rfl) (by omega) (by omega) (by omega) hgl hW (fun b hb => ⟨by rcases hb with hb | hb; (have := hP b hb; omega); omega, hPl b hb⟩) hcy'.out hF'.out hhr.out ?_
      rotate_left
      cases neg
      by_cases o : f.op = 3
      have hE : Hid (formP f false = f) := hidi (by rw [hcn.out]; rw [← hcn.out]; exact (form_is o).2)
      obtain ⟨b3, b4, b7, b11, b12, b13, b14, b15, b16, b17, b18, b19⟩ := ops_is (K := 3) o
      clear o
      have tk := Tk.mk 2
      have hfin := hidi ((hv.kept hW hP).mono fun b h => (.inl h : P b ∨ (W0.heap.size ≤ b ∧ b < wr.heap.size)))
      rotate_left
      have o3 := o
      clear o
      by_cases o : f.op = 7
      have hE : Hid (formP f false = .mk 6 ⟨#[]⟩ 0 0 L) := hidi (by rw [hcn.out]; rw [o]; simp [formN, mkOp])
      obtain ⟨b3, b4, b7, b11, b12, b13, b14, b15, b16, b17, b18, b19⟩ := ops_is (K := 7) o
      clear o
      have tk := Tk.mk 1
      clear hv hA
      focus (go_wp2_with fail)
      refine (refop_any _ 6 _ L _ hargs.out hPl (i64_of (by decide) (by decide))).mono ?_
      rotate_left
      have o7 := o
      clear o
      by_cases o : f.op = 15
      have hE : Hid (formP f false = .mk 15 ⟨#[]⟩ (f.val) 0 L) := hidi (by rw [hcn.out]; rw [o]; simp [formN, mkLate])
      obtain ⟨b3, b4, b7, b11, b12, b13, b14, b15, b16, b17, b18, b19⟩ := ops_is (K := 15) o
      have hop := hidi o
      clear o
      have tk := Tk.mk 1
      have v0 := h2.out
      have v1 : f.val ≤ 1 := by have h := h3.out; rw [hop.out] at h; exact h
      clear hv hA
      focus (go_wp2_with fail)
      refine (reflate_any _ 15 (f.val) _ L _ hargs.out hPl (i64_of (by decide) (by decide)) (i64_of (by omega) (by omega))).mono ?_
      rotate_left
      have o15 := o
      clear o
      by_cases o : f.op = 16
      have hE : Hid (formP f false = .mk f.op ⟨#[]⟩ f.val 0 L) := hidi (by rw [hcn.out]; rw [o]; simp [formN, mkLate])
      obtain ⟨b3, b4, b7, b11, b12, b13, b14, b15, b16, b17, b18, b19⟩ := ops_is (K := 16) o
      have hop := hidi o
      clear o
      have tk := Tk.mk 1
      have v0 := h2.out
      have v1 : f.val ≤ 1 := by have h := h3.out; rw [hop.out] at h; exact h
      clear hv hA
      focus (go_wp2_with fail)
      refine (reflate_any _ f.op f.val _ L _ hargs.out hPl hfit.1 (i64_of (by omega) (by omega))).mono ?_
      rotate_left
      have o16 := o
      clear o
      by_cases o : f.op = 17
      have hE : Hid (formP f false = .mk f.op ⟨#[]⟩ f.val 0 L) := hidi (by rw [hcn.out]; rw [o]; simp [formN, mkLate])
      obtain ⟨b3, b4, b7, b11, b12, b13, b14, b15, b16, b17, b18, b19⟩ := ops_is (K := 17) o
      have hop := hidi o
      clear o
      have tk := Tk.mk 1
      have v0 := h2.out
      have v1 : f.val ≤ 1 := by have h := h3.out; rw [hop.out] at h; exact h
      clear hv hA
      focus (go_wp2_with fail)
      refine (reflate_any _ f.op f.val _ L _ hargs.out hPl hfit.1 (i64_of (by omega) (by omega))).mono ?_
      rotate_left
      have o17 := o
      clear o
      have hall := ops_not h1 o3 o7 o15 o16 o17
      obtain ⟨b3, b4, b7, b11, b12, b13, b14, b15, b16, b17, b18, b19⟩ := hall
      have hE : Hid (formP f false = .mk f.op ⟨#[]⟩ 0 0 L) := hidi (by rw [hcn.out]; exact refform_plain h1 o3 o7 o15 o16 o17 false)
      clear h1 o3 o7 o15 o16 o17
      have tk := Tk.mk 1
      clear hv hA
      focus (go_wp2_with fail)
      refine (refop_any _ f.op _ L _ hargs.out hPl hfit.1).mono ?_
      rotate_left
      by_cases o : f.op = 3
      have hE : Hid (formP f true = .mk 4 ⟨#[]⟩ 0 0 [f]) := hidi (by rw [hcn.out]; rw [← hcn.out]; exact (form_is o).1)
      obtain ⟨b3, b4, b7, b11, b12, b13, b14, b15, b16, b17, b18, b19⟩ := ops_is (K := 3) o
      clear o
      have tk := Tk.mk 1
      have hv2 := (hv.kept hW hP).mono fun b h => (.inl h : P b ∨ (W0.heap.size ≤ b ∧ b < wr.heap.size))
      clear hv hA
      focus (go_wp2_with fail)
      refine (refone_any _ 4 _ f _ hv2 hPl (i64_of (by decide) (by decide))).mono ?_
      rotate_left
      have o3 := o
      clear o
      by_cases o : f.op = 7
      have hE : Hid (formP f true = .mk 5 ⟨#[]⟩ 0 0 L) := hidi (by rw [hcn.out]; rw [o]; simp [formN, mkOp])
      obtain ⟨b3, b4, b7, b11, b12, b13, b14, b15, b16, b17, b18, b19⟩ := ops_is (K := 7) o
      clear o
      have tk := Tk.mk 1
      clear hv hA
      focus (go_wp2_with fail)
      refine (refop_any _ 5 _ L _ hargs.out hPl (i64_of (by decide) (by decide))).mono ?_
      rotate_left
      have o7 := o
      clear o
      by_cases o : f.op = 15
      have hE : Hid (formP f true = .mk 15 ⟨#[]⟩ (1 - f.val) 0 L) := hidi (by rw [hcn.out]; rw [o]; simp [formN, mkLate, dualN])
      obtain ⟨b3, b4, b7, b11, b12, b13, b14, b15, b16, b17, b18, b19⟩ := ops_is (K := 15) o
      have hop := hidi o
      clear o
      have tk := Tk.mk 1
      have v0 := h2.out
      have v1 : f.val ≤ 1 := by have h := h3.out; rw [hop.out] at h; exact h
      clear hv hA
      focus (go_wp2_with fail)
      refine (reflate_any _ 15 (1 - f.val) _ L _ hargs.out hPl (i64_of (by decide) (by decide)) (i64_of (by omega) (by omega))).mono ?_
      rotate_left
      have o15 := o
      clear o
      by_cases o : f.op = 16
      have hE : Hid (formP f true = .mk (dualI f.op) ⟨#[]⟩ (1 - f.val) 0 L) := hidi (by rw [hcn.out]; rw [o]; simp [formN, mkLate, dualN, dualI])
      obtain ⟨b3, b4, b7, b11, b12, b13, b14, b15, b16, b17, b18, b19⟩ := ops_is (K := 16) o
      have hop := hidi o
      clear o
      have tk := Tk.mk 1
      have v0 := h2.out
      have v1 : f.val ≤ 1 := by have h := h3.out; rw [hop.out] at h; exact h
      clear hv hA
      focus (go_wp2_with fail)
      refine (refdual_any f.op wr).mono ?_
      rintro e w3 ⟨rfl, rfl⟩
      focus (go_wp2_with fail)
      refine (reflate_any _ (dualI f.op) (1 - f.val) _ L _ hargs.out hPl hdI.out (i64_of (by omega) (by omega))).mono ?_
      rotate_left
      have o16 := o
      clear o
      by_cases o : f.op = 17
      have hE : Hid (formP f true = .mk (dualI f.op) ⟨#[]⟩ (1 - f.val) 0 L) := hidi (by rw [hcn.out]; rw [o]; simp [formN, mkLate, dualN, dualI])
      obtain ⟨b3, b4, b7, b11, b12, b13, b14, b15, b16, b17, b18, b19⟩ := ops_is (K := 17) o
      have hop := hidi o
      clear o
      have tk := Tk.mk 1
      have v0 := h2.out
      have v1 : f.val ≤ 1 := by have h := h3.out; rw [hop.out] at h; exact h
      clear hv hA
      focus (go_wp2_with fail)
      refine (refdual_any f.op wr).mono ?_
      rintro e w3 ⟨rfl, rfl⟩
      focus (go_wp2_with fail)
      refine (reflate_any _ (dualI f.op) (1 - f.val) _ L _ hargs.out hPl hdI.out (i64_of (by omega) (by omega))).mono ?_
      rotate_left
      have o17 := o
      clear o
      have hall := ops_not h1 o3 o7 o15 o16 o17
      obtain ⟨b3, b4, b7, b11, b12, b13, b14, b15, b16, b17, b18, b19⟩ := hall
      have hE : Hid (formP f true = .mk (dualI f.op) ⟨#[]⟩ 0 0 L) := hidi (by rw [hcn.out]; exact refform_plain h1 o3 o7 o15 o16 o17 true)
      clear h1 o3 o7 o15 o16 o17
      have tk := Tk.mk 1
      clear hv hA
      focus (go_wp2_with fail)
      refine (refdual_any f.op wr).mono ?_
      rintro e w3 ⟨rfl, rfl⟩
      focus (go_wp2_with fail)
      refine (refop_any _ (dualI f.op) _ L _ hargs.out hPl hdI.out).mono ?_
      rotate_left
      all_goals first
      | have _t : Tk 1 := tk
        rintro e w1 ⟨r, rfl, hN, hb1⟩
        obtain ⟨o1, c1, rfl, hf1, hA1⟩ := hN.open
        have hWb := hidi (hW.trans (hb1.mono hW.size))
        have hr1 := hidi (hhr.out.below hb1)
        have hfin := hidi hN
        have hz1 := hb1.size
        obtain ⟨a1, a2, a3, a4, a5, ⟨z0, z1, z2, z3, z4⟩, y0, y1, y2, y3, y4⟩ := hr1.out.cells
        clear hA1 hN hown hargs d0 d1 d2 d3 d4 hhr
        go_wp2_with fail
        (try simp only [Exit.inBlock, Exit.then])
        refine bodyPost_ret (results_cell_row rfl _ _ (w.heap.size + 1) 24 _ (0, 0) _ rfl (hr1.out.set _ _ _ _ _) Tryz.underlying24 rfl fmSize) rfl ?_
        refine ⟨_, rfl, ?_⟩
        rw [hE.out]
        exact fm_put (by omega) hWb.out hfin.out (fun b hb => by rcases hb with (hb | hb) | hb; exact hPm b hb; all_goals omega) (fun b hb => by rcases hb with (hb | hb) | hb; exact .inl hb; all_goals exact .inr ⟨by omega, by omega⟩) _ _ _ _ _
      | have _t : Tk 2 := tk
        have hWb := hidi hW
        have hr1 := hhr
        obtain ⟨a1, a2, a3, a4, a5, ⟨z0, z1, z2, z3, z4⟩, y0, y1, y2, y3, y4⟩ := hr1.out.cells
        clear hown hargs hv hA hhr
        go_wp2_with fail
        (try simp only [Exit.inBlock, Exit.then])
        refine bodyPost_ret (results_cell_row rfl _ _ (w.heap.size + 1) 24 _ (0, 0) _ rfl (hr1.out.set _ _ _ _ _) Tryz.underlying24 rfl fmSize) rfl ?_
        refine ⟨_, rfl, ?_⟩
        rw [hE.out]
        exact fm_put (by omega) hWb.out hfin.out (fun b hb => by rcases hb with hb | hb; exact hPm b hb; omega) (fun b hb => by rcases hb with hb | hb; exact .inl hb; exact .inr ⟨by omega, hb.2⟩) _ _ _ _ _
      | have _t : Tk 3 := tk
        intro x' W o3 c3 q1 q2 q3
        simp only [Act.put, List.setIfInBounds_toArray, List.set_cons_zero, List.set_cons_succ]
        have q2' := hidi q2
        have q3' := hidi q3
        clear q2 q3
        go_wp2_with fail
        (try simp only [Exit.inBlock, Exit.then])
        refine bodyPost_ret (results_cell_row rfl _ _ (w.heap.size + 1) 24 _ (0, 0) _ rfl q1.out Tryz.underlying24 rfl fmSize) rfl ?_
        refine ⟨_, rfl, ?_, q3'.out⟩
        rw [hE.out]
        refine q2'.out.mono fun b hb => ?_
        rcases hb with ⟨(hb | hb) | hb, hb2⟩
        · exact .inl hb
        · exact .inr ⟨by omega, hb2⟩
        · exact .inr ⟨by omega, hb2⟩
theorem refform_any (f : Fm) : nodesB f = true → f.nodes ≤ 1000 → RefForm f := by
  induction f using Fm.ind with
  | h f ih =>
    intro hn hnn neg P v w hv hP
    have hb := nodesB_self hn
    obtain ⟨h1, h2, h3, h4, h5, h6, h7⟩ := nodeB_flds hb
    have ih' : Hid (∀ g ∈ f.args, RefForm g) := hidi fun g hg => ih g hg (nodesB_arg hn hg) (Nat.le_trans (parts_sizeN hg) hnn)
    have hl9 : f.args.length ≤ 1000 := by have := Fm.length_le_nodes f.args; rw [f.nodes_eq] at hnn; omega
    exact refform_w f ih' hl9 _ _ _ neg (hidi rfl) (hidi rfl) (hidi rfl) (hidi (formP_eq f neg)) (hidi h2) (hidi h3) (hidi h4) (hidi h5) (hidi h6) (hidi (dualI_in (nodeB_known hb))) P v w hv hP
def refNotF (f : Fm) : Fm := if looseB f then checkedF (formP f true) else zeroF
theorem refnot_any (P : Nat → Prop) (v : Value) (f : Fm) (w : World) (hv : FAtP P w v f) (hP : ∀ b, P b → b < w.heap.size) :
    Calls Tryz.prog 34 #[v] w fun e w' => ∃ r, e = .returned r ∧ FAtP (NewP P w w') w' r (refNotF f) ∧ Below w.heap.size w w' := by
  obtain ⟨o, c, rfl, hfit, hA⟩ := hv.open
  obtain ⟨W0, hW0, hB0, hc, hc2, hlt⟩ := fm2_open w (.int .i64 f.op) (.string f.name) (.int .i64 f.val) (.int .i64 f.bound) (.slice o f.args.length c) (.int .i64 0) (.string ⟨#[]⟩) (.int .i64 0) (.int .i64 0) (.slice none 0 0)
  have hres : Hid (Res5 W0 (w.heap.size + 1)) := by
    have h2 := heap_alloc_new (w.alloc (.cells #[.int .i64 f.op, .string f.name, .int .i64 f.val, .int .i64 f.bound, .slice o f.args.length c] 24)) (.cells #[.int .i64 0, .string ⟨#[]⟩, .int .i64 0, .int .i64 0, .slice none 0 0] 24)
    rw [show (w.alloc (.cells #[.int .i64 f.op, .string f.name, .int .i64 f.val, .int .i64 f.bound, .slice o f.args.length c] 24)).heap.size = w.heap.size + 1 by simp] at h2
    rw [hW0.out] at h2
    exact ⟨_, _, _, _, _, h2⟩
  have hPR : ∀ b, P b → b ≠ w.heap.size + 1 := fun b h => by have := hP b h; omega
  have hF0 : FAt w.heap.size W0 _ f := (hv.kept hB0 hP).mono hP
  obtain ⟨d0, d1, d2, d3, d4⟩ := hc.out
  rw [Nat.zero_add] at d1 d2 d3 d4
  cases q : looseB f
  · rw [show refNotF f = zeroF by unfold refNotF; rw [q]; rfl]
    go_enter Tryz.func34, Tryz.ntmps34
    go_wp2_with fail
    rw [hW0.out]
    go_wp2_with (go_at_call 41; refine (refloose_any f w.heap.size _ _ hF0 hB0.size).mono ?_; rintro e w1 ⟨rfl, hb1⟩; rw [q]; clear d0 d1 d2 d3 d4; obtain ⟨d0, d1, d2, d3, d4⟩ := hc.out.later hb1 (by omega); rw [Nat.zero_add] at d1 d2 d3 d4; have hr1 := hidi (hres.out.below hb1); obtain ⟨a1, a2, a3, a4, a5, ⟨z0, z1, z2, z3, z4⟩, y0, y1, y2, y3, y4⟩ := hr1.out.cells)
    (try simp only [Exit.inBlock, Exit.then])
    refine bodyPost_ret (results_cell_row rfl _ _ (w.heap.size + 1) 24 _ (0, 0) _ rfl (hr1.out.set _ _ _ _ _) Tryz.underlying24 rfl fmSize) rfl ?_
    have hAB := hB0.trans (hb1.mono hB0.size)
    refine ⟨_, rfl, fm_put (Nat.le_succ _) hAB (.mk i64_0 size_0 i64_0 i64_0 (.nil _ _)) hPR (fun b h => .inl h) _ _ _ _ _⟩
  · rw [show refNotF f = checkedF (formP f true) by unfold refNotF; rw [q]; rfl]
    have hnb := looseB_nodes q
    have hn4 : f.nodes ≤ 1000 := by
      unfold looseB at q
      simp only [Bool.and_eq_true, decide_eq_true_eq] at q
      omega
    go_enter Tryz.func34, Tryz.ntmps34
    go_wp2_with fail
    rw [hW0.out]
    refine (refloose_any f w.heap.size _ _ hF0 hB0.size).mono ?_
    rintro e w1 ⟨rfl, hb1⟩
    rw [q]
    clear d0 d1 d2 d3 d4
    obtain ⟨d0, d1, d2, d3, d4⟩ := hc.out.later hb1 (by omega)
    rw [Nat.zero_add] at d1 d2 d3 d4
    have hr1 := hidi (hres.out.below hb1)
    have hAB := hB0.trans (hb1.mono hB0.size)
    have hv1 := hv.kept hAB hP
    have hP1 : ∀ b, P b → b < w1.heap.size := fun b h => Nat.lt_of_lt_of_le (hP b h) hAB.size
    go_wp2_with fail
    refine (refform_any f hnb hn4 true P _ w1 hv1 hP1).mono ?_
    rintro e w2 ⟨r, rfl, hN, hb2⟩
    have hr2 := hidi (hr1.out.below hb2)
    have hAB2 := hAB.trans (hb2.mono hAB.size)
    have hz2 := hb2.size
    clear d0 d1 d2 d3 d4
    go_wp2_with fail
    refine (refchecked_any (NewP P w1 w2) r _ w2 hN (fun b hb => by rcases hb with hb | hb; exact Nat.lt_of_lt_of_le (hP1 b hb) hz2; exact hb.2)).mono ?_
    rintro e w3 ⟨r3, rfl, hN3, hb3⟩
    obtain ⟨o3, c3, rfl, hf3, hA3⟩ := hN3.open
    have hr3 := hidi (hr2.out.below hb3)
    have hAB3 := hidi (hAB2.trans (hb3.mono hAB2.size))
    have hz1 := hAB.size
    have hz0 := hb1.size
    have hz3 := hb3.size
    obtain ⟨a1, a2, a3, a4, a5, ⟨z0, z1, z2, z3, z4⟩, y0, y1, y2, y3, y4⟩ := hr3.out.cells
    have hN3' := hidi hN3
    clear hN3 hA3 hN hv hA hF0 hv1
    go_wp2_with fail
    (try simp only [Exit.inBlock, Exit.then])
    refine bodyPost_ret (results_cell_row rfl _ _ (w.heap.size + 1) 24 _ (0, 0) _ rfl (hr3.out.set _ _ _ _ _) Tryz.underlying24 rfl fmSize) rfl ?_
    refine ⟨_, rfl, ?_⟩
    exact fm_put (Nat.le_succ _) hAB3.out hN3'.out (fun b hb => by rcases hb with (hb | hb) | hb; exact hPR b hb; all_goals omega) (fun b hb => by rcases hb with (hb | hb) | hb; exact .inl hb; all_goals exact .inr ⟨by omega, by omega⟩) _ _ _ _ _
theorem rk_valid (P : Nat → Prop) (v : Value) (f : Fm) (w : World) (hv : FAtP P w v f) (hP : ∀ b, P b → b < w.heap.size) (q : fvalidB f = false) :
    Calls Tryz.prog 31 #[v] w fun e w' => ∃ r, e = .returned (.tuple #[r, .int .i64 (30)]) ∧ FAtP (NewP P w w') w' r (zeroF) ∧ Below w.heap.size w w' := by
    obtain ⟨o, c, rfl, hfit, hA⟩ := hv.open
    obtain ⟨W0, hW0, hB0, hc, hc2, hlt⟩ := fm2_open w (.int .i64 f.op) (.string f.name) (.int .i64 f.val) (.int .i64 f.bound) (.slice o f.args.length c) (.int .i64 0) (.string ⟨#[]⟩) (.int .i64 0) (.int .i64 0) (.slice none 0 0)
    have hres := hidi (fm2_res hW0)
    have hPR : ∀ b, P b → b ≠ w.heap.size + 1 := fun b h => by have := hP b h; omega
    have hF0 : FAt w.heap.size W0 _ f := (hv.kept hB0 hP).mono hP
    have hBl : Below W0.heap.size W0 W0 := Below.refl _ _
    obtain ⟨d0, d1, d2, d3, d4⟩ := hc.out
    rw [Nat.zero_add] at d1 d2 d3 d4
    go_enter Tryz.func31, Tryz.ntmps31
    go_wp2_with fail
    rw [hW0.out]
    refine (refvalid_any f w.heap.size _ _ hF0 hB0.size).mono ?_
    rintro e w1 ⟨rfl, hb1⟩
    rw [q]
    replace hBl := hBl.trans (hb1.mono hBl.size)
    have hW := hB0.trans (hBl.mono hB0.size)
    have hFw : FAt w.heap.size w1 _ f := (hv.kept hW hP).mono hP
    have hr1 := hidi (hres.out.below hBl)
    have hWs := hW.size
    clear hb1
    clear d0 d1 d2 d3 d4
    obtain ⟨d0, d1, d2, d3, d4⟩ := hc.out.later hBl (by omega)
    rw [Nat.zero_add] at d1 d2 d3 d4
    obtain ⟨a1, a2, a3, a4, a5, ⟨z0, z1, z2, z3, z4⟩, y0, y1, y2, y3, y4⟩ := hr1.out.cells
    go_wp2_with fail
    (try simp only [Exit.inBlock, Exit.then])
    refine bodyPost_ret (results_cell_tmp rfl _ _ (w.heap.size + 1) _ _ (0, 0) (.int .i64 30) rfl rfl (hr1.out.set _ _ _ _ _) rfl) rfl ?_
    exact ⟨_, rfl, fm_put (Nat.le_succ _) hW (.mk i64_0 size_0 i64_0 i64_0 (.nil _ _)) hPR (fun b h => .inl h) _ _ _ _ _⟩
theorem rk_lay (P : Nat → Prop) (v : Value) (f : Fm) (w : World) (hv : FAtP P w v f) (hP : ∀ b, P b → b < w.heap.size) (q : fvalidB f = true) (q2 : layB f = false) :
    Calls Tryz.prog 31 #[v] w fun e w' => ∃ r, e = .returned (.tuple #[r, .int .i64 (30)]) ∧ FAtP (NewP P w w') w' r (zeroF) ∧ Below w.heap.size w w' := by
    obtain ⟨o, c, rfl, hfit, hA⟩ := hv.open
    obtain ⟨W0, hW0, hB0, hc, hc2, hlt⟩ := fm2_open w (.int .i64 f.op) (.string f.name) (.int .i64 f.val) (.int .i64 f.bound) (.slice o f.args.length c) (.int .i64 0) (.string ⟨#[]⟩) (.int .i64 0) (.int .i64 0) (.slice none 0 0)
    have hres := hidi (fm2_res hW0)
    have hPR : ∀ b, P b → b ≠ w.heap.size + 1 := fun b h => by have := hP b h; omega
    have hF0 : FAt w.heap.size W0 _ f := (hv.kept hB0 hP).mono hP
    have hBl : Below W0.heap.size W0 W0 := Below.refl _ _
    obtain ⟨d0, d1, d2, d3, d4⟩ := hc.out
    rw [Nat.zero_add] at d1 d2 d3 d4
    go_enter Tryz.func31, Tryz.ntmps31
    go_wp2_with fail
    rw [hW0.out]
    refine (refvalid_any f w.heap.size _ _ hF0 hB0.size).mono ?_
    rintro e w1 ⟨rfl, hb1⟩
    rw [q]
    replace hBl := hBl.trans (hb1.mono hBl.size)
    have hW := hB0.trans (hBl.mono hB0.size)
    have hFw : FAt w.heap.size w1 _ f := (hv.kept hW hP).mono hP
    have hr1 := hidi (hres.out.below hBl)
    have hWs := hW.size
    clear hb1
    clear d0 d1 d2 d3 d4
    obtain ⟨d0, d1, d2, d3, d4⟩ := hc.out.later hBl (by omega)
    rw [Nat.zero_add] at d1 d2 d3 d4
    go_wp2_with fail
    refine (reflayered_any f w.heap.size _ _ hFw hWs).mono ?_
    rintro e w1 ⟨rfl, hb1⟩
    rw [q2]
    replace hBl := hBl.trans (hb1.mono hBl.size)
    have hW := hB0.trans (hBl.mono hB0.size)
    have hFw : FAt w.heap.size w1 _ f := (hv.kept hW hP).mono hP
    have hr1 := hidi (hres.out.below hBl)
    have hWs := hW.size
    clear hb1
    clear d0 d1 d2 d3 d4
    obtain ⟨d0, d1, d2, d3, d4⟩ := hc.out.later hBl (by omega)
    rw [Nat.zero_add] at d1 d2 d3 d4
    obtain ⟨a1, a2, a3, a4, a5, ⟨z0, z1, z2, z3, z4⟩, y0, y1, y2, y3, y4⟩ := hr1.out.cells
    go_wp2_with fail
    (try simp only [Exit.inBlock, Exit.then])
    refine bodyPost_ret (results_cell_tmp rfl _ _ (w.heap.size + 1) _ _ (0, 0) (.int .i64 30) rfl rfl (hr1.out.set _ _ _ _ _) rfl) rfl ?_
    exact ⟨_, rfl, fm_put (Nat.le_succ _) hW (.mk i64_0 size_0 i64_0 i64_0 (.nil _ _)) hPR (fun b h => .inl h) _ _ _ _ _⟩
theorem rk_size (P : Nat → Prop) (v : Value) (f : Fm) (w : World) (hv : FAtP P w v f) (hP : ∀ b, P b → b < w.heap.size) (q : fvalidB f = true) (q2 : layB f = true) (hnb : nodesB f = true) (hn : f.nodes ≤ 1000) (s d : Nat) (hx : extF f false = (s, d)) (h1 : ((s : Int) > 60)) :
    Calls Tryz.prog 31 #[v] w fun e w' => ∃ r, e = .returned (.tuple #[r, .int .i64 (2)]) ∧ FAtP (NewP P w w') w' r (zeroF) ∧ Below w.heap.size w w' := by
    obtain ⟨o, c, rfl, hfit, hA⟩ := hv.open
    obtain ⟨W0, hW0, hB0, hc, hc2, hlt⟩ := fm2_open w (.int .i64 f.op) (.string f.name) (.int .i64 f.val) (.int .i64 f.bound) (.slice o f.args.length c) (.int .i64 0) (.string ⟨#[]⟩) (.int .i64 0) (.int .i64 0) (.slice none 0 0)
    have hres := hidi (fm2_res hW0)
    have hPR : ∀ b, P b → b ≠ w.heap.size + 1 := fun b h => by have := hP b h; omega
    have hF0 : FAt w.heap.size W0 _ f := (hv.kept hB0 hP).mono hP
    have hBl : Below W0.heap.size W0 W0 := Below.refl _ _
    obtain ⟨d0, d1, d2, d3, d4⟩ := hc.out
    rw [Nat.zero_add] at d1 d2 d3 d4
    go_enter Tryz.func31, Tryz.ntmps31
    go_wp2_with fail
    rw [hW0.out]
    refine (refvalid_any f w.heap.size _ _ hF0 hB0.size).mono ?_
    rintro e w1 ⟨rfl, hb1⟩
    rw [q]
    replace hBl := hBl.trans (hb1.mono hBl.size)
    have hW := hB0.trans (hBl.mono hB0.size)
    have hFw : FAt w.heap.size w1 _ f := (hv.kept hW hP).mono hP
    have hr1 := hidi (hres.out.below hBl)
    have hWs := hW.size
    clear hb1
    clear d0 d1 d2 d3 d4
    obtain ⟨d0, d1, d2, d3, d4⟩ := hc.out.later hBl (by omega)
    rw [Nat.zero_add] at d1 d2 d3 d4
    go_wp2_with fail
    refine (reflayered_any f w.heap.size _ _ hFw hWs).mono ?_
    rintro e w1 ⟨rfl, hb1⟩
    rw [q2]
    replace hBl := hBl.trans (hb1.mono hBl.size)
    have hW := hB0.trans (hBl.mono hB0.size)
    have hFw : FAt w.heap.size w1 _ f := (hv.kept hW hP).mono hP
    have hr1 := hidi (hres.out.below hBl)
    have hWs := hW.size
    clear hb1
    clear d0 d1 d2 d3 d4
    obtain ⟨d0, d1, d2, d3, d4⟩ := hc.out.later hBl (by omega)
    rw [Nat.zero_add] at d1 d2 d3 d4
    go_wp2_with fail
    refine (extent_any f hnb hn false w.heap.size _ _ hFw hWs).mono ?_
    rintro e w1 ⟨rfl, hb1⟩
    rw [hx]
    replace hBl := hBl.trans (hb1.mono hBl.size)
    have hW := hB0.trans (hBl.mono hB0.size)
    have hFw : FAt w.heap.size w1 _ f := (hv.kept hW hP).mono hP
    have hr1 := hidi (hres.out.below hBl)
    have hWs := hW.size
    clear hb1
    clear d0 d1 d2 d3 d4
    obtain ⟨d0, d1, d2, d3, d4⟩ := hc.out.later hBl (by omega)
    rw [Nat.zero_add] at d1 d2 d3 d4
    obtain ⟨a1, a2, a3, a4, a5, ⟨z0, z1, z2, z3, z4⟩, y0, y1, y2, y3, y4⟩ := hr1.out.cells
    go_wp2_with fail
    (try simp only [Exit.inBlock, Exit.then])
    refine bodyPost_ret (results_cell_tmp rfl _ _ (w.heap.size + 1) _ _ (0, 0) (.int .i64 2) rfl rfl (hr1.out.set _ _ _ _ _) rfl) rfl ?_
    exact ⟨_, rfl, fm_put (Nat.le_succ _) hW (.mk i64_0 size_0 i64_0 i64_0 (.nil _ _)) hPR (fun b h => .inl h) _ _ _ _ _⟩
theorem rk_depth (P : Nat → Prop) (v : Value) (f : Fm) (w : World) (hv : FAtP P w v f) (hP : ∀ b, P b → b < w.heap.size) (q : fvalidB f = true) (q2 : layB f = true) (hnb : nodesB f = true) (hn : f.nodes ≤ 1000) (s d : Nat) (hx : extF f false = (s, d)) (h1 : ¬ ((s : Int) > 60)) (h2 : (d : Int) > 20) :
    Calls Tryz.prog 31 #[v] w fun e w' => ∃ r, e = .returned (.tuple #[r, .int .i64 (2)]) ∧ FAtP (NewP P w w') w' r (zeroF) ∧ Below w.heap.size w w' := by
    obtain ⟨o, c, rfl, hfit, hA⟩ := hv.open
    obtain ⟨W0, hW0, hB0, hc, hc2, hlt⟩ := fm2_open w (.int .i64 f.op) (.string f.name) (.int .i64 f.val) (.int .i64 f.bound) (.slice o f.args.length c) (.int .i64 0) (.string ⟨#[]⟩) (.int .i64 0) (.int .i64 0) (.slice none 0 0)
    have hres := hidi (fm2_res hW0)
    have hPR : ∀ b, P b → b ≠ w.heap.size + 1 := fun b h => by have := hP b h; omega
    have hF0 : FAt w.heap.size W0 _ f := (hv.kept hB0 hP).mono hP
    have hBl : Below W0.heap.size W0 W0 := Below.refl _ _
    obtain ⟨d0, d1, d2, d3, d4⟩ := hc.out
    rw [Nat.zero_add] at d1 d2 d3 d4
    go_enter Tryz.func31, Tryz.ntmps31
    go_wp2_with fail
    rw [hW0.out]
    refine (refvalid_any f w.heap.size _ _ hF0 hB0.size).mono ?_
    rintro e w1 ⟨rfl, hb1⟩
    rw [q]
    replace hBl := hBl.trans (hb1.mono hBl.size)
    have hW := hB0.trans (hBl.mono hB0.size)
    have hFw : FAt w.heap.size w1 _ f := (hv.kept hW hP).mono hP
    have hr1 := hidi (hres.out.below hBl)
    have hWs := hW.size
    clear hb1
    clear d0 d1 d2 d3 d4
    obtain ⟨d0, d1, d2, d3, d4⟩ := hc.out.later hBl (by omega)
    rw [Nat.zero_add] at d1 d2 d3 d4
    go_wp2_with fail
    refine (reflayered_any f w.heap.size _ _ hFw hWs).mono ?_
    rintro e w1 ⟨rfl, hb1⟩
    rw [q2]
    replace hBl := hBl.trans (hb1.mono hBl.size)
    have hW := hB0.trans (hBl.mono hB0.size)
    have hFw : FAt w.heap.size w1 _ f := (hv.kept hW hP).mono hP
    have hr1 := hidi (hres.out.below hBl)
    have hWs := hW.size
    clear hb1
    clear d0 d1 d2 d3 d4
    obtain ⟨d0, d1, d2, d3, d4⟩ := hc.out.later hBl (by omega)
    rw [Nat.zero_add] at d1 d2 d3 d4
    go_wp2_with fail
    refine (extent_any f hnb hn false w.heap.size _ _ hFw hWs).mono ?_
    rintro e w1 ⟨rfl, hb1⟩
    rw [hx]
    replace hBl := hBl.trans (hb1.mono hBl.size)
    have hW := hB0.trans (hBl.mono hB0.size)
    have hFw : FAt w.heap.size w1 _ f := (hv.kept hW hP).mono hP
    have hr1 := hidi (hres.out.below hBl)
    have hWs := hW.size
    clear hb1
    clear d0 d1 d2 d3 d4
    obtain ⟨d0, d1, d2, d3, d4⟩ := hc.out.later hBl (by omega)
    rw [Nat.zero_add] at d1 d2 d3 d4
    obtain ⟨a1, a2, a3, a4, a5, ⟨z0, z1, z2, z3, z4⟩, y0, y1, y2, y3, y4⟩ := hr1.out.cells
    go_wp2_with fail
    (try simp only [Exit.inBlock, Exit.then])
    refine bodyPost_ret (results_cell_tmp rfl _ _ (w.heap.size + 1) _ _ (0, 0) (.int .i64 2) rfl rfl (hr1.out.set _ _ _ _ _) rfl) rfl ?_
    exact ⟨_, rfl, fm_put (Nat.le_succ _) hW (.mk i64_0 size_0 i64_0 i64_0 (.nil _ _)) hPR (fun b h => .inl h) _ _ _ _ _⟩
theorem rk_ok (P : Nat → Prop) (v : Value) (f : Fm) (w : World) (hv : FAtP P w v f) (hP : ∀ b, P b → b < w.heap.size) (q : fvalidB f = true) (q2 : layB f = true) (hnb : nodesB f = true) (hn : f.nodes ≤ 1000) (s d : Nat) (hx : extF f false = (s, d)) (h1 : ¬ ((s : Int) > 60)) (h2 : ¬ ((d : Int) > 20)) :
    Calls Tryz.prog 31 #[v] w fun e w' => ∃ r, e = .returned (.tuple #[r, .int .i64 (0)]) ∧ FAtP (NewP P w w') w' r (formP f false) ∧ Below w.heap.size w w' := by
    obtain ⟨o, c, rfl, hfit, hA⟩ := hv.open
    obtain ⟨W0, hW0, hB0, hc, hc2, hlt⟩ := fm2_open w (.int .i64 f.op) (.string f.name) (.int .i64 f.val) (.int .i64 f.bound) (.slice o f.args.length c) (.int .i64 0) (.string ⟨#[]⟩) (.int .i64 0) (.int .i64 0) (.slice none 0 0)
    have hres := hidi (fm2_res hW0)
    have hPR : ∀ b, P b → b ≠ w.heap.size + 1 := fun b h => by have := hP b h; omega
    have hF0 : FAt w.heap.size W0 _ f := (hv.kept hB0 hP).mono hP
    have hBl : Below W0.heap.size W0 W0 := Below.refl _ _
    obtain ⟨d0, d1, d2, d3, d4⟩ := hc.out
    rw [Nat.zero_add] at d1 d2 d3 d4
    go_enter Tryz.func31, Tryz.ntmps31
    go_wp2_with fail
    rw [hW0.out]
    refine (refvalid_any f w.heap.size _ _ hF0 hB0.size).mono ?_
    rintro e w1 ⟨rfl, hb1⟩
    rw [q]
    replace hBl := hBl.trans (hb1.mono hBl.size)
    have hW := hB0.trans (hBl.mono hB0.size)
    have hFw : FAt w.heap.size w1 _ f := (hv.kept hW hP).mono hP
    have hr1 := hidi (hres.out.below hBl)
    have hWs := hW.size
    clear hb1
    clear d0 d1 d2 d3 d4
    obtain ⟨d0, d1, d2, d3, d4⟩ := hc.out.later hBl (by omega)
    rw [Nat.zero_add] at d1 d2 d3 d4
    go_wp2_with fail
    refine (reflayered_any f w.heap.size _ _ hFw hWs).mono ?_
    rintro e w1 ⟨rfl, hb1⟩
    rw [q2]
    replace hBl := hBl.trans (hb1.mono hBl.size)
    have hW := hB0.trans (hBl.mono hB0.size)
    have hFw : FAt w.heap.size w1 _ f := (hv.kept hW hP).mono hP
    have hr1 := hidi (hres.out.below hBl)
    have hWs := hW.size
    clear hb1
    clear d0 d1 d2 d3 d4
    obtain ⟨d0, d1, d2, d3, d4⟩ := hc.out.later hBl (by omega)
    rw [Nat.zero_add] at d1 d2 d3 d4
    go_wp2_with fail
    refine (extent_any f hnb hn false w.heap.size _ _ hFw hWs).mono ?_
    rintro e w1 ⟨rfl, hb1⟩
    rw [hx]
    replace hBl := hBl.trans (hb1.mono hBl.size)
    have hW := hB0.trans (hBl.mono hB0.size)
    have hFw : FAt w.heap.size w1 _ f := (hv.kept hW hP).mono hP
    have hr1 := hidi (hres.out.below hBl)
    have hWs := hW.size
    clear hb1
    clear d0 d1 d2 d3 d4
    obtain ⟨d0, d1, d2, d3, d4⟩ := hc.out.later hBl (by omega)
    rw [Nat.zero_add] at d1 d2 d3 d4
    have hP1 : ∀ b, P b → b < w1.heap.size := fun b h => Nat.lt_of_lt_of_le (hP b h) hWs
    go_wp2_with fail
    refine (refform_any f hnb hn false P _ w1 (hv.kept hW hP) hP1).mono ?_
    rintro e w2 ⟨r, rfl, hN, hb2⟩
    obtain ⟨o3, c3, rfl, hf3, hA3⟩ := hN.open
    have hr2 := hidi (hr1.out.below hb2)
    have hAB := hidi (hW.trans (hb2.mono hWs))
    have hz2 := hb2.size
    have hz1 := hBl.size
    have hN' := hidi hN
    clear hN hA3 hv hA hF0 hFw d0 d1 d2 d3 d4
    obtain ⟨a1, a2, a3, a4, a5, ⟨z0, z1, z2, z3, z4⟩, y0, y1, y2, y3, y4⟩ := hr2.out.cells
    go_wp2_with fail
    (try simp only [Exit.inBlock, Exit.then])
    refine bodyPost_ret (results_cell_tmp rfl _ _ (w.heap.size + 1) _ _ (0, 0) (.int .i64 0) rfl rfl (hr2.out.set _ _ _ _ _) rfl) rfl ?_
    exact ⟨_, rfl, fm_put (Nat.le_succ _) hAB.out hN'.out (fun b hb => by rcases hb with hb | hb; exact hPR b hb; omega) (fun b hb => by rcases hb with hb | hb; exact .inl hb; exact .inr ⟨by omega, hb.2⟩) _ _ _ _ _⟩
theorem refkern_any (P : Nat → Prop) (v : Value) (f : Fm) (w : World) (hv : FAtP P w v f) (hP : ∀ b, P b → b < w.heap.size) :
    Calls Tryz.prog 31 #[v] w fun e w' => ∃ r, e = .returned (.tuple #[r, .int .i64 (kernelF f).2]) ∧ FAtP (NewP P w w') w' r (kernelF f).1 ∧ Below w.heap.size w w' := by
  cases q : fvalidB f
  · rw [show kernelF f = (zeroF, 30) by unfold kernelF; rw [q]; simp]
    exact rk_valid P v f w hv hP q
  · cases q2 : layB f
    · rw [show kernelF f = (zeroF, 30) by unfold kernelF; rw [q2]; simp]
      exact rk_lay P v f w hv hP q q2
    · have hq := q
      unfold fvalidB at hq
      simp only [Bool.and_eq_true, decide_eq_true_eq] at hq
      obtain ⟨⟨hn, -⟩, hnb⟩ := hq
      have hx := ext_form f hnb false
      by_cases h1 : (formP f false).nodes ≤ 60
      · by_cases h2 : (formP f false).depth ≤ 20
        · rw [show kernelF f = (formP f false, 0) by unfold kernelF; rw [if_pos ⟨q, q2⟩, if_pos ⟨h1, h2⟩]]
          exact rk_ok P v f w hv hP q q2 hnb (by omega) _ _ hx (by omega) (by omega)
        · rw [show kernelF f = (zeroF, 2) by unfold kernelF; rw [if_pos ⟨q, q2⟩, if_neg (fun h => h2 h.2)]]
          exact rk_depth P v f w hv hP q q2 hnb (by omega) _ _ hx (by omega) (by omega)
      · rw [show kernelF f = (zeroF, 2) by unfold kernelF; rw [if_pos ⟨q, q2⟩, if_neg (fun h => h1 h.1)]]
        exact rk_size P v f w hv hP q q2 hnb (by omega) _ _ hx (by omega)
theorem refNotF_eq (f : Fm) : refNotF f = notF f := by
  unfold refNotF notF checkedF
  cases q : looseB f
  · simp
  · have hk := loose_NK q
    obtain ⟨c1, c2⟩ := form_core hk.1 true
    have hl := form_lay hk.1 (loose_parts.1 q).2.2.2.2 true
    by_cases h : (formP f true).nodes ≤ 400 ∧ (formP f true).depth ≤ 60
    · have hf : looseB (formP f true) = true := loose_parts.2 ⟨h.1, h.2, c1, c2, hl⟩
      rw [if_pos rfl, hf, if_pos rfl, if_pos ⟨rfl, h⟩]
    · have hf : looseB (formP f true) = false := by
        cases hh : looseB (formP f true)
        · rfl
        · exact (h ⟨(loose_parts.1 hh).1, (loose_parts.1 hh).2.1⟩).elim
      rw [if_pos rfl, hf, if_neg (by decide), if_neg (fun e => h e.2)]
theorem refnot_eq (P : Nat → Prop) (v : Value) (f : Fm) (w : World) (hv : FAtP P w v f) (hP : ∀ b, P b → b < w.heap.size) :
    Calls Tryz.prog 34 #[v] w fun e w' => ∃ r, e = .returned r ∧ FAtP (NewP P w w') w' r (notF f) ∧ Below w.heap.size w w' := by
  rw [← refNotF_eq]
  exact refnot_any P v f w hv hP

end Go.Proofs.YtbnnjbfbifihaaaGreatDoor
