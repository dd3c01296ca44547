/-
  Contracts that the formula laws stand on, part Gi.
-/
import Derived.Test.YtbnnjbfbifihaaaGreatDoorFcR
import Derived.Maps.AppendAt
import Derived.Test.YtbnnjbfbifihaaaGreatDoorGh
import Derived.Test.YtbnnjbfbifihaaaGreatDoorGd

/-
  append of a list of formulas onto a row that the call owns; the contract of package formula's flat.
-/
namespace Go.Proofs.YtbnnjbfbifihaaaGreatDoor
open Go.RowKit
open Go.Sort hiding Below

/-- a list in memory, with the slices of its elements' arguments -/
theorem args_cells {P : Nat → Prop} {w : World} {ad : Addr} {c : Nat} {l : List Fm} (h : FArgsP P w (.slice (some ad) l.length c) l) (h0 : 0 < l.length) :
    ∃ es : List (Fm × Value), es.map Prod.fst = l ∧ (∀ (j : Nat) (u : Value), (fmCells es)[j]? = some u → w.cell? (ad.add j) = some u) ∧ ∀ e ∈ es, Fits e.1 ∧ FArgsP P w e.2 e.1.args := by
  generalize hv : Value.slice (some ad) l.length c = v at h
  cases h with
  | nil o c => simp at h0
  | cons b off cap l sl h0 hb hl hc hf hk hr =>
    cases hv
    refine ⟨List.ofFn fun i : Fin l.length => (l[i], sl i), ?_, fun j u hu => ?_, fun e he => ?_⟩
    · apply List.ext_getElem
      · simp
      · intro i h1 h2; simp
    · obtain ⟨k, hk', hcase⟩ := fmCells_get _ j u hu
      have hkl : k < l.length := by simpa using hk'
      obtain ⟨q0, q1, q2, q3, q4⟩ := hk k hkl
      rw [Addr.add_lit]
      simp only [List.getElem_ofFn] at hcase
      rcases hcase with ⟨rfl, rfl⟩ | ⟨rfl, rfl⟩ | ⟨rfl, rfl⟩ | ⟨rfl, rfl⟩ | ⟨rfl, rfl⟩
      · exact q0
      · exact q1
      · exact q2
      · exact q3
      · exact q4
    · obtain ⟨i, rfl⟩ := List.mem_ofFn.1 he
      exact ⟨hf i i.2, hr i i.2⟩

theorem fmCells_one {P : Nat → Prop} {w : World} {es : List (Fm × Value)} (h : ∀ e ∈ es, Fits e.1 ∧ FArgsP P w e.2 e.1.args) : ∀ u ∈ fmCells es, u.oneCell' = true := by
  intro u hu
  obtain ⟨j, hj, rfl⟩ := List.getElem_of_mem hu
  obtain ⟨k, hk, hcase⟩ := fmCells_get es j _ (List.getElem?_eq_getElem hj)
  rcases hcase with ⟨-, e⟩ | ⟨-, e⟩ | ⟨-, e⟩ | ⟨-, e⟩ | ⟨-, e⟩
  · rw [e]; rfl
  · rw [e]; rfl
  · rw [e]; rfl
  · rw [e]; rfl
  · rw [e]; exact (h _ (List.getElem_mem hk)).2.oneCell

/-- append onto an own row, of formulas in whatever slice -/
theorem run_append_fms (w : World) (base : Nat) (ty : TypeId) (v : Value) (n : Nat) (ys : List Value) (hown : w.ownsRow base 24 5 v n ys) (hb : base ≤ w.heap.size) (P : Nat → Prop) (xv : Value) (l : List Fm) (hx : FArgsP P w xv l) (h6 : n + l.length ≤ 1000000) :
    ∃ v' w' es, (Builtin.append_ #[22, 22] ty #[v, xv]).run Tryz.prog w = .ok v' w' ∧ es.map Prod.fst = l ∧ (∀ e ∈ es, Fits e.1 ∧ FArgsP P w e.2 e.1.args) ∧ w'.ownsRow base 24 5 v' (n + l.length) (ys ++ fmCells es) ∧ w.grownBy w' v.ownBlock := by
  obtain ⟨i0, hi, hz0, hz1, hz2⟩ := info_parts Tryz.fmInfo
  obtain ⟨o, c, rfl⟩ := hx.shape
  cases o with
  | none =>
    have h0 : l = [] := by
      generalize hv : Value.slice none l.length c = v' at hx
      cases hx with
      | nil => rfl
      | cons => cases hv
    subst h0
    exact ⟨v, w, [], run_append_nilx w base _ ty _ i0 5 Tryz.underlying22 hi v n ys hown c, rfl, (fun e h => by cases h), by simpa [fmCells] using hown, ⟨rfl, rfl, rfl, Nat.le_refl _, fun _ _ _ => rfl⟩⟩
  | some ad =>
    have key : ∃ es : List (Fm × Value), es.map Prod.fst = l ∧ (∀ (j : Nat) (u : Value), (fmCells es)[j]? = some u → w.cell? (ad.add j) = some u) ∧ ∀ e ∈ es, Fits e.1 ∧ FArgsP P w e.2 e.1.args := by
      rcases Nat.eq_zero_or_pos l.length with h0 | h0
      · obtain rfl := List.length_eq_zero_iff.1 h0
        exact ⟨[], rfl, (fun j u h => by simp [fmCells] at h), (fun e h => by cases h)⟩
      · exact args_cells hx h0
    obtain ⟨es, rfl, hnews, hg⟩ := key
    rw [List.length_map] at h6 ⊢
    obtain ⟨v', w', r1, r2, r3, _⟩ := run_append_own (P := Tryz.prog) w base 22 ty 24 i0 _ 5 64 Tryz.underlying22 hi hz0 hz1 hz2 rfl (by decide) v n ys hown ad es.length c (fmCells es) (fmCells_len es) hnews (fmCells_one hg) (by unfold maxLen; omega) (by omega) hb
    exact ⟨v', w', es, r1, rfl, hg, r2, r3⟩

theorem wp_append_fms {o : Oper} {a : Act} {w : World} {K : Act → World → Prop} {Q : Exit → Act → World → Prop} (s x : Operand)
    (ho : o.op = .call { callee := .builtin .append, args := #[s, x], argTypes := #[22, 22] })
    (base : Nat) (v : Value) (n : Nat) (ys : List Value) (hs : a.eval s = v) (hown : w.ownsRow base 24 5 v n ys) (hb : base ≤ w.heap.size) (P : Nat → Prop) (xv : Value) (l : List Fm) (hxv : a.eval x = xv) (hx : FArgsP P w xv l) (h6 : n + l.length ≤ 1000000)
    (h : ∀ v' w' (es : List (Fm × Value)), es.map Prod.fst = l → (∀ e ∈ es, Fits e.1 ∧ FArgsP P w e.2 e.1.args) → w'.ownsRow base 24 5 v' (n + l.length) (ys ++ fmCells es) → w.grownBy w' v.ownBlock → K (a.put o.dst v') w') : o.wp Tryz.prog a w K Q := by
  obtain ⟨v', w', es, hr, h1, h2, h3, h4⟩ := run_append_fms w base o.type v n ys hown hb P xv l hx h6
  unfold Oper.wp execOp
  simp only [ho, resolve, invoke, builtin, Sem.run_bind, Sem.run_pure, Result.andThen_ok, List.map_toArray, List.map_cons, List.map_nil, hs, hxv, hr]
  exact h v' w' es h1 h2 h3 h4

theorem wpList_append_fms {ops : Array Oper} {rest : List Oper} {o : Oper} {a : Act} {w : World} {Q : Exit → Act → World → Prop} (hgd : o.guard = none) (s x : Operand)
    (ho : o.op = .call { callee := .builtin .append, args := #[s, x], argTypes := #[22, 22] })
    (base : Nat) (v : Value) (n : Nat) (ys : List Value) (hs : a.eval s = v) (hown : w.ownsRow base 24 5 v n ys) (hb : base ≤ w.heap.size) (P : Nat → Prop) (xv : Value) (l : List Fm) (hxv : a.eval x = xv) (hx : FArgsP P w xv l) (h6 : n + l.length ≤ 1000000)
    (h : ∀ v' w' (es : List (Fm × Value)), es.map Prod.fst = l → (∀ e ∈ es, Fits e.1 ∧ FArgsP P w e.2 e.1.args) → w'.ownsRow base 24 5 v' (n + l.length) (ys ++ fmCells es) → w.grownBy w' v.ownBlock → wpList Tryz.prog ops Q rest (a.put o.dst v') w') : wpList Tryz.prog ops Q (o :: rest) a w :=
  wpList_plain hgd fun _ hK => wp_append_fms s x ho base v n ys hs hown hb P xv l hxv hx h6 fun v' w' es h1 h2 h3 h4 => hK _ _ (h v' w' es h1 h2 h3 h4)

theorem wp_append_es {o : Oper} {a : Act} {w : World} {K : Act → World → Prop} {Q : Exit → Act → World → Prop} (s x : Operand)
    (ho : o.op = .call { callee := .builtin .append, args := #[s, x], argTypes := #[22, 22] })
    (base : Nat) (v : Value) (n : Nat) (ys : List Value) (hs : a.eval s = v) (hown : w.ownsRow base 24 5 v n ys) (hb : base ≤ w.heap.size) (ad : Addr) (c : Nat) (es : List (Fm × Value)) (hxv : a.eval x = .slice (some ad) es.length c)
    (hnews : ∀ (j : Nat) (u : Value), (fmCells es)[j]? = some u → w.cell? (ad.add j) = some u) (h1 : ∀ u ∈ fmCells es, u.oneCell' = true) (h6 : n + es.length ≤ 1000000)
    (h : ∀ v' w', w'.ownsRow base 24 5 v' (n + es.length) (ys ++ fmCells es) → w.grownBy w' v.ownBlock → K (a.put o.dst v') w') : o.wp Tryz.prog a w K Q := by
  obtain ⟨i0, hi, hz0, hz1, hz2⟩ := info_parts Tryz.fmInfo
  obtain ⟨v', w', hr, r2, r3, _⟩ := run_append_own (P := Tryz.prog) w base 22 o.type 24 i0 _ 5 64 Tryz.underlying22 hi hz0 hz1 hz2 rfl (by decide) v n ys hown ad es.length c (fmCells es) (fmCells_len es) hnews h1 (by unfold maxLen; omega) (by omega) hb
  unfold Oper.wp execOp
  simp only [ho, resolve, invoke, builtin, Sem.run_bind, Sem.run_pure, Result.andThen_ok, List.map_toArray, List.map_cons, List.map_nil, hs, hxv, hr]
  exact h v' w' r2 r3
theorem wpList_append_es {ops : Array Oper} {rest : List Oper} {o : Oper} {a : Act} {w : World} {Q : Exit → Act → World → Prop} (hgd : o.guard = none) (s x : Operand)
    (ho : o.op = .call { callee := .builtin .append, args := #[s, x], argTypes := #[22, 22] })
    (base : Nat) (v : Value) (n : Nat) (ys : List Value) (hs : a.eval s = v) (hown : w.ownsRow base 24 5 v n ys) (hb : base ≤ w.heap.size) (ad : Addr) (c : Nat) (es : List (Fm × Value)) (hxv : a.eval x = .slice (some ad) es.length c)
    (hnews : ∀ (j : Nat) (u : Value), (fmCells es)[j]? = some u → w.cell? (ad.add j) = some u) (h1 : ∀ u ∈ fmCells es, u.oneCell' = true) (h6 : n + es.length ≤ 1000000)
    (h : ∀ v' w', w'.ownsRow base 24 5 v' (n + es.length) (ys ++ fmCells es) → w.grownBy w' v.ownBlock → wpList Tryz.prog ops Q rest (a.put o.dst v') w') : wpList Tryz.prog ops Q (o :: rest) a w :=
  wpList_plain hgd fun _ hK => wp_append_es s x ho base v n ys hs hown hb ad c es hxv hnews h1 h6 fun v' w' h2 h3 => hK _ _ (h v' w' h2 h3)
theorem news_one (W : World) (f : Fm) (sl : Value) : ∀ (j : Nat) (u : Value), (fmCells [(f, sl)])[j]? = some u → (W.alloc (.cells #[.int .i64 f.op, .string f.name, .int .i64 f.val, .int .i64 f.bound, sl] 24)).cell? ((⟨W.heap.size, 0, none⟩ : Addr).add j) = some u := by
  intro j u hu
  obtain ⟨q0, q1, q2, q3, q4⟩ := box5 W (.int .i64 f.op) (.string f.name) (.int .i64 f.val) (.int .i64 f.bound) sl 24
  rw [Addr.add_lit]
  match j, hu with
  | 0, hu => cases hu; exact q0
  | 1, hu => cases hu; exact q1
  | 2, hu => cases hu; exact q2
  | 3, hu => cases hu; exact q3
  | 4, hu => cases hu; exact q4
  | n + 5, hu => simp [fmCells] at hu

/-- a row of the call's own whose elements lead to P's blocks alone -/
def OwnP (P : Nat → Prop) (base : Nat) (w : World) (v : Value) (es : List (Fm × Value)) : Prop :=
  w.ownsRow base 24 5 v es.length (fmCells es) ∧ ∀ e ∈ es, Fits e.1 ∧ FArgsP P w e.2 e.1.args
theorem ownP_nil (P : Nat → Prop) (base : Nat) (w : World) : OwnP P base w (.slice none 0 0) [] := ⟨⟨rfl, .inl ⟨rfl, rfl⟩⟩, fun e h => by cases h⟩

theorem OwnP.grown {P : Nat → Prop} {base : Nat} {w X w' : World} {v v' : Value} {es es2 : List (Fm × Value)} {l : List Fm} (hP : ∀ b, P b → b < base) (h : OwnP P base w v es) (hb : base ≤ w.heap.size) (hb' : base ≤ X.heap.size) (hB : Below w.heap.size w X) (hm : es2.map Prod.fst = l) (hg : ∀ e ∈ es2, Fits e.1 ∧ FArgsP P X e.2 e.1.args)
    (hown : w'.ownsRow base 24 5 v' (es.length + l.length) (fmCells es ++ fmCells es2)) (hgr : X.grownBy w' v.ownBlock) : OwnP P base w' v' (es ++ es2) := by
  have hblk : ∀ b, P b → w'.heap[b]? = X.heap[b]? := fun b hb1 => hgr.block b (by have := hP b hb1; omega) (fun e => by
    have := (h.1.lt b e.symm).1
    have := hP b hb1
    omega)
  refine ⟨?_, fun e he => ?_⟩
  · have hl : es2.length = l.length := by rw [← hm, List.length_map]
    rw [List.length_append, fmCells_app, hl]
    exact hown
  · rcases List.mem_append.1 he with he | he
    · exact ⟨(h.2 e he).1, (h.2 e he).2.same fun b hb1 => (hblk b hb1).trans (hB.block b (by have := hP b hb1; omega))⟩
    · exact ⟨(hg e he).1, (hg e he).2.same hblk⟩
theorem OwnP.below {P : Nat → Prop} {w W X w' : World} {v : Value} {es : List (Fm × Value)} (h : OwnP P w.heap.size W v es) (hW : Below w.heap.size w W) (hb' : w.heap.size ≤ X.heap.size) (hB : Below W.heap.size W X) (hgr : X.grownBy w' v.ownBlock) : Below w.heap.size w w' := by
  refine ⟨hgr.os.trans (hB.os.trans hW.os), hgr.tape.trans (hB.tape.trans hW.tape), hgr.output.trans (hB.output.trans hW.output), Nat.le_trans hb' hgr.size, fun b hb => ?_⟩
  have hs := hW.size
  rw [hgr.block b (by omega) (fun e => by have := (h.1.lt b e.symm).1; omega), hB.block b (by omega), hW.block b hb]

/-- what flat hands back -/
def FlatPost (P : Nat → Prop) (w w' : World) (v : Value) (fs : List Fm) : Prop :=
  (v = .slice none 0 0 ∧ fs = []) ∨ ∃ (R cap : Nat) (es : List (Fm × Value)), v = .slice (some ⟨R, 0, none⟩) es.length cap ∧ es.map Prod.fst = fs ∧ es.length ≤ cap ∧ cap ≤ 9223372036854775807 ∧ w.heap.size ≤ R ∧ R < w'.heap.size ∧ RowF P w' R es

theorem OwnP.post {P : Nat → Prop} {w w' : World} {v : Value} {es : List (Fm × Value)} (h : OwnP P w.heap.size w' v es) : FlatPost P w w' v (es.map Prod.fst) := by
  have h0 := h.1
  rcases h.1.2 with ⟨rfl, h1⟩ | ⟨g, cap, cur, rfl, hbg, hg, hle, hcap, _⟩
  · obtain rfl := List.length_eq_zero_iff.1 h1
    exact .inl ⟨rfl, rfl⟩
  · refine .inr ⟨g, cap, es, rfl, rfl, hle, by unfold maxLen at hcap; omega, hbg, (Array.getElem?_eq_some_iff.1 hg).1, fun k hk => ?_, fun j hj => by simp [World.frozen?, hg], h.2⟩
    obtain ⟨q1, q2, q3, q4, q5⟩ := fmCells_at es k hk
    have a1 := h0.cells rfl _ _ q1
    have a2 := h0.cells rfl _ _ q2
    have a3 := h0.cells rfl _ _ q3
    have a4 := h0.cells rfl _ _ q4
    have a5 := h0.cells rfl _ _ q5
    rw [Addr.add_lit, Nat.zero_add] at a1 a2 a3 a4 a5
    exact ⟨a1, a2, a3, a4, a5⟩

theorem flat_le (op : Int) (l : List Fm) (k : Nat) : (flatF op (l.take k)).length ≤ (flatF op l).length := by
  have : flatF op l = flatF op (l.take k) ++ flatF op (l.drop k) := by
    unfold flatF
    rw [← List.flatMap_append, List.take_append_drop]
  rw [this, List.length_append]
  omega

set_option maxRecDepth 100000 in
set_option maxHeartbeats 4000000 in
theorem flat_any (P : Nat → Prop) (op : Int) (l : List Fm) (v : Value) (w : World) (hv : FArgsP P w v l) (hP : ∀ b, P b → b < w.heap.size) (hn : (flatF op l).length ≤ 1000000) :
    Calls Tryz.prog 112 #[.int .i64 op, v] w fun e w' => ∃ r, e = .returned r ∧ FlatPost P w w' r (flatF op l) ∧ Below w.heap.size w w' := by
  obtain ⟨o, c, rfl⟩ := hv.shape
  have hlm := hv.len
  go_enter Tryz.func112, Tryz.ntmps112
  go_wp2_with fail
  go_loopw [5, 10] (fun lv a wr => ∃ (k : Nat) (es : List (Fm × Value)), k ≤ l.length ∧ a = .int .i64 (k : Int) ∧ Hid (es.map Prod.fst = flatF op (l.take k)) ∧ Hid (OwnP P w.heap.size wr lv es) ∧ Below w.heap.size w wr) (fun _ a _ => l.length - (intOf a).toNat)
  case atStart => exact ⟨0, [], Nat.zero_le _, rfl, hidi (by simp [flatF]), hidi (ownP_nil _ _ _), Below.refl _ _⟩
  case round =>
    obtain ⟨k, es, hk, rfl, hes, hown, hB⟩ := hrel
    have hzr := hB.size
    by_cases hkl : k < l.length
    · obtain ⟨b, off, rfl, hb, hat⟩ := hv.at (by omega)
      obtain ⟨sl, hc5, hF⟩ := hat k hkl
      have hbl := hP b hb
      obtain ⟨e0, e1, e2, e3, e4⟩ := hc5.below hB hbl
      obtain ⟨sl', esl, hfx, hax⟩ := hF
      obtain rfl : sl = sl' := by simpa [fval] using esl
      have hstep : Hid (flatF op (l.take (k + 1)) = flatF op (l.take k) ++ (if l[k].op = op then l[k].args else [l[k]])) := by
        unfold Hid; rw [List.take_succ_eq_append_getElem hkl, flatF_snoc]
      have hle := hidi (flat_le op l (k + 1))
      have hlen : Hid (es.length = (flatF op (l.take k)).length) := by unfold Hid; rw [← hes.out, List.length_map]
      generalize l[k] = x at *
      obtain ⟨ox, cx, rfl⟩ := hax.shape
      have hown' := hown.out.1
      have hgood := hidi hown.out.2
      obtain ⟨X1, hX1⟩ : ∃ X1, Hid (wr.alloc (.cells #[.int .i64 x.op, .string x.name, .int .i64 x.val, .int .i64 x.bound, .slice ox x.args.length cx] 24) = X1) := ⟨_, hidi rfl⟩
      have hB1 : Below wr.heap.size wr X1 := by rw [← hX1.out]; exact below_box _ _
      have hz1 : X1.heap.size = wr.heap.size + 1 := by rw [← hX1.out]; simp
      have hbx1 : Cells5 X1 wr.heap.size 0 (.int .i64 x.op) (.string x.name) (.int .i64 x.val) (.int .i64 x.bound) (.slice ox x.args.length cx) := by rw [← hX1.out]; exact box5 _ _ _ _ _ _ _
      obtain ⟨x0, x1, x2, x3, x4⟩ := hbx1
      rw [Nat.zero_add] at x1 x2 x3 x4
      have hax1 := hidi ((hax.kept hB hP).kept hB1 (fun b hb => by have := hP b hb; omega))
      have hown1 := hown'.alloc (.cells #[.int .i64 x.op, .string x.name, .int .i64 x.val, .int .i64 x.bound, .slice ox x.args.length cx] 24)
      rw [hX1.out] at hown1
      by_cases hop : x.op = op
      · rw [if_pos hop] at hstep
        have hop' : (x.op == op) = true := by simpa using hop
        clear hop
        rw [← hX1.out] at x0 x1 x2 x3 x4
        go_wp2_with (at_builtin; rw [hX1.out]; refine wpList_append_fms rfl (.tmp 18) (.tmp 20) rfl w.heap.size _ es.length (fmCells es) rfl hown1 (by omega) P _ x.args rfl hax1.out (by
          have h1 := hle.out; have h2 := hlen.out; rw [hstep.out, List.length_append] at h1; omega) ?_)
        intro v' w' es2 hm2 hg2 hown2 hgr2
        have hnx := hidi (OwnP.grown hP hown.out hzr (by omega) hB1 hm2 (fun e he => hg2 e.1 e.2 he) hown2 hgr2)
        have hBn := hidi (OwnP.below hown.out hB (by omega) hB1 hgr2)
        have hes2 : Hid ((es ++ es2).map Prod.fst = flatF op (l.take (k + 1))) := by unfold Hid; rw [List.map_append, hes.out, hm2, hstep.out]
        clear hm2 hg2 hown2 hgr2
        go_wp2
        go_roundw
        case rel => exact ⟨k + 1, es ++ es2, by omega, by go_num, hes2, hnx, hBn.out⟩
        case measure => simp only [intOf]; omega
      · rw [if_neg hop] at hstep
        have hop' : (x.op == op) = false := by simpa using hop
        clear hop
        obtain ⟨X2, hX2⟩ : ∃ X2, Hid (X1.alloc (.cells #[.int .i64 x.op, .string x.name, .int .i64 x.val, .int .i64 x.bound, .slice ox x.args.length cx] 24) = X2) := ⟨_, hidi rfl⟩
        have hB2 : Below X1.heap.size X1 X2 := by rw [← hX2.out]; exact below_box _ _
        have hz2 : X2.heap.size = X1.heap.size + 1 := by rw [← hX2.out]; simp
        have hnews := hidi (news_one X1 x (.slice ox x.args.length cx))
        rw [hX2.out, hz1] at hnews
        have hax2 := hidi (hax1.out.kept hB2 (fun b hb => by have := hP b hb; omega))
        have hown2 := hown1.alloc (.cells #[.int .i64 x.op, .string x.name, .int .i64 x.val, .int .i64 x.bound, .slice ox x.args.length cx] 24)
        rw [hX2.out] at hown2
        rw [← hX1.out] at x0 x1 x2 x3 x4
        go_wp2_with (at_builtin; rw [hX1.out, hX2.out]; refine wpList_append_es rfl (.tmp 22) (.tmp 24) rfl w.heap.size _ es.length (fmCells es) rfl hown2 (by omega) ⟨wr.heap.size + 1, 0, none⟩ 1 [(x, .slice ox x.args.length cx)] rfl hnews.out (fmCells_one (P := P) (w := X2) (fun e he => by
          obtain rfl : e = (x, .slice ox x.args.length cx) := by simpa using he
          exact ⟨hfx, hax2.out⟩)) (by
          have h1 := hle.out; have h2 := hlen.out; rw [hstep.out, List.length_append] at h1; simp only [List.length_singleton] at h1 ⊢; omega) ?_)
        intro v' w' hown3 hgr2
        have hg3 : Hid (∀ e ∈ [(x, Value.slice ox x.args.length cx)], Fits e.1 ∧ FArgsP P X2 e.2 e.1.args) := hidi fun e he => by
          obtain rfl : e = (x, .slice ox x.args.length cx) := by simpa using he
          exact ⟨hfx, hax2.out⟩
        have hB12 : Below wr.heap.size wr X2 := hB1.trans (hB2.mono (by omega))
        have hnx := hidi (OwnP.grown (l := [x]) hP hown.out hzr (by omega) hB12 rfl hg3.out hown3 hgr2)
        have hBn := hidi (OwnP.below hown.out hB (by omega) hB12 hgr2)
        have hes2 : Hid ((es ++ [(x, Value.slice ox x.args.length cx)]).map Prod.fst = flatF op (l.take (k + 1))) := by unfold Hid; rw [List.map_append, hes.out, hstep.out]; rfl
        clear hown3 hgr2 hg3
        go_wp2
        go_roundw
        case rel => exact ⟨k + 1, es ++ [(x, Value.slice ox x.args.length cx)], by omega, by go_num, hes2, hnx, hBn.out⟩
        case measure => simp only [intOf]; omega
    · obtain rfl : k = l.length := by omega
      have hend : Hid (es.map Prod.fst = flatF op l) := by unfold Hid; rw [hes.out, List.take_length]
      go_wp2
      go_ret
      exact ⟨_, rfl, by rw [← hend.out]; exact hown.out.post, hB⟩

end Go.Proofs.YtbnnjbfbifihaaaGreatDoor

/-
  The contract of package formula's join.
-/
namespace Go.Proofs.YtbnnjbfbifihaaaGreatDoor
open Go.RowKit
open Go.Sort hiding Below

set_option maxRecDepth 100000 in
set_option maxHeartbeats 1000000 in
theorem index_nil (fv : Value) (w : World) : Calls Tryz.prog 141 #[.slice none 0 0, fv] w fun e w' => e = .returned (.int .i64 (-1)) ∧ w' = w := by
  go_enter Tryz.func141, Tryz.ntmps141
  go_wp2_with fail
  refine wp_loop_rounds 1 ?_
  rw [rounds_succ]
  go_wp2
  go_ret
  exact ⟨rfl, rfl⟩
set_option maxRecDepth 100000 in
set_option maxHeartbeats 1000000 in
theorem delete_nil (fv : Value) (w : World) : Calls Tryz.prog 133 #[.slice none 0 0, fv] w fun e w' => e = .returned (.slice none 0 0) ∧ w' = w := by
  go_enter Tryz.func133, Tryz.ntmps133
  go_wp2_with (go_at_call 141; refine (index_nil _ _).mono ?_; rintro e w1 ⟨rfl, rfl⟩)
  go_ret
  exact ⟨rfl, rfl⟩
set_option maxRecDepth 100000 in
set_option maxHeartbeats 1000000 in
theorem compact_nil (fv : Value) (w : World) : Calls Tryz.prog 130 #[.slice none 0 0, fv] w fun e w' => e = .returned (.slice none 0 0) ∧ w' = w := by
  go_enter Tryz.func130, Tryz.ntmps130
  go_wp2
  go_ret
  exact ⟨rfl, rfl⟩
theorem sort_nil (fv : Value) (w : World) : Calls Tryz.prog 129 #[.slice none 0 0, fv] w fun e w' => e = .returned (.tuple #[]) ∧ w' = w :=
  AnyF.slices_SortFunc_none Tryz.sortFm none 0 fv w

set_option maxRecDepth 100000 in
set_option maxHeartbeats 2000000 in
theorem settle_nil (unit zero : Fm) (w : World) :
    Calls Tryz.prog 111 #[.slice none 0 0, .agg #[.int .i64 unit.op, .string unit.name, .int .i64 unit.val, .int .i64 unit.bound, .slice none 0 0], .agg #[.int .i64 zero.op, .string zero.name, .int .i64 zero.val, .int .i64 zero.bound, .slice none 0 0],
        .func (.func 113) #[] #[], .func (.func 19) #[] #[]] w fun e w' => e = .returned (.slice none 0 0) ∧ Below w.heap.size w w' := by
  go_enter Tryz.func111, Tryz.ntmps111
  obtain ⟨W0, hW0, hB0, hz0, hrow5, hc6, hc7, hc9, hc11⟩ := settle_open w (.slice none 0 0) (.int .i64 unit.op) (.string unit.name) (.int .i64 unit.val) (.int .i64 unit.bound) (.slice none 0 0) (.int .i64 zero.op) (.string zero.name) (.int .i64 zero.val) (.int .i64 zero.bound) (.slice none 0 0)
  have q5 := cell_of_row W0 w.heap.size 0 _ _ _ hrow5.out
  have q11 := hc11.out
  have fr5 : W0.frozen? ⟨w.heap.size, 0, none⟩ = false := by
    have h := hrow5.out
    simp [World.frozen?, h]
  obtain ⟨W4, hW4⟩ : ∃ W4, Hid (W0.setCell ⟨w.heap.size, 0, none⟩ (.slice none 0 0) = W4) := ⟨_, hidi rfl⟩
  have h5 : W4.heap[w.heap.size]? = some (.cells #[.slice none 0 0] 22 (0, 0)) := by
    rw [← hW4.out]
    simp only [World.setCell, Array.getElem?_modify, if_pos, hrow5.out, Option.map_some]
    rfl
  have p5 := cell_of_row W4 w.heap.size 0 _ _ _ h5
  have hB4 : Below w.heap.size w W4 := by rw [← hW4.out]; exact (((Sv.refl W0 w.heap.size).set 0 _).below hB0.toBelow (Nat.le_refl _))
  rw [← hW4.out] at p5
  go_wp2_with fail
  rw [hW0.out]
  refine (sort_nil _ _).mono ?_
  rintro e w1 ⟨rfl, rfl⟩
  go_wp2_with fail
  refine (compact_nil _ _).mono ?_
  rintro e w1 ⟨rfl, rfl⟩
  go_wp2_with fail
  refine wp_loop_rounds 1 ?_
  rw [rounds_succ]
  go_wp2_with (go_at_call 133; refine (delete_nil _ _).mono ?_; rintro e w1 ⟨rfl, rfl⟩)
  go_ret
  rw [hW4.out]
  exact ⟨rfl, hB4⟩

/-- settle, at what flat hands back -/
theorem settle_flat (P : Nat → Prop) (w W : World) (v : Value) (fs : List Fm) (unit zero : Fm) (h : FlatPost P w W v fs) (hP : ∀ b, P b → b < w.heap.size) (hpos : w.heap.size ≤ W.heap.size) (hn : fs.length ≤ 1000000) (hfu : Fits unit) (hfz : Fits zero) (hua : unit.args = []) (hza : zero.args = [])
    (hng : ∀ x ∈ fs, x.op = 4 → x.args ≠ []) :
    Calls Tryz.prog 111 #[v, .agg #[.int .i64 unit.op, .string unit.name, .int .i64 unit.val, .int .i64 unit.bound, .slice none 0 0], .agg #[.int .i64 zero.op, .string zero.name, .int .i64 zero.val, .int .i64 zero.bound, .slice none 0 0],
        .func (.func 113) #[] #[], .func (.func 19) #[] #[]] W fun e w' =>
      ∃ r, e = .returned r ∧ FArgsP (fun b => P b ∨ (w.heap.size ≤ b ∧ b < w'.heap.size)) w' r (settleF fs unit zero) ∧ Below w.heap.size W w' := by
  rcases h with ⟨rfl, rfl⟩ | ⟨R, cap, es, rfl, rfl, h1, h2, h3, h4, h5⟩
  · refine (settle_nil unit zero W).mono ?_
    rintro e w' ⟨rfl, hb⟩
    refine ⟨_, rfl, ?_, hb.mono hpos⟩
    have : settleF [] unit zero = [] := by simp [settleF, setF]
    rw [this]
    exact .nil _ _
  · refine (settle_any P R cap es W unit zero h5 h4 (fun b hb => ⟨by have := hP b hb; omega, by have := hP b hb; omega⟩) (by simpa using hn) h1 h2 hfu hfz hua hza (fun e he => hng e.1 (List.mem_map.2 ⟨e, he, rfl⟩))).mono ?_
    rintro e w' ⟨r, rfl, hr, hS⟩
    refine ⟨r, rfl, hr.mono fun b hb => ?_, ⟨hS.os, hS.tape, hS.output, hS.size, fun b hb => hS.block b (by omega) (by omega)⟩⟩
    have := hS.size
    rcases hb with hb | rfl | ⟨hb, hb'⟩
    · exact .inl hb
    · exact .inr ⟨h3, by omega⟩
    · exact .inr ⟨by omega, hb'⟩

theorem below_undrew {W X : World} (h : Below W.drew.heap.size W.drew X) : Below W.heap.size W X := ⟨h.os, h.tape, h.output, h.size, h.block⟩
theorem three_open (w : World) (u z : Int) : ∃ W0, Hid (((w.alloc (.cells #[.int .i64 0, .string ⟨#[]⟩, .int .i64 0, .int .i64 0, .slice none 0 0] 24)).alloc (.cells #[.int .i64 u, .string ⟨#[]⟩, .int .i64 0, .int .i64 0, .slice none 0 0] 24)).alloc (.cells #[.int .i64 z, .string ⟨#[]⟩, .int .i64 0, .int .i64 0, .slice none 0 0] 24) = W0) ∧
    Below w.heap.size w W0 ∧ W0.heap.size = w.heap.size + 3 ∧ Hid (W0.heap[w.heap.size]? = some (.cells #[.int .i64 0, .string ⟨#[]⟩, .int .i64 0, .int .i64 0, .slice none 0 0] 24 (0, 0))) ∧
    Hid (Cells5 W0 (w.heap.size + 1) 0 (.int .i64 u) (.string ⟨#[]⟩) (.int .i64 0) (.int .i64 0) (.slice none 0 0)) ∧ Hid (Cells5 W0 (w.heap.size + 1 + 1) 0 (.int .i64 z) (.string ⟨#[]⟩) (.int .i64 0) (.int .i64 0) (.slice none 0 0)) := by
  have h1 := below_box w (.cells #[.int .i64 0, .string ⟨#[]⟩, .int .i64 0, .int .i64 0, .slice none 0 0] 24)
  have g1 := heap_alloc_new w (.cells #[.int .i64 0, .string ⟨#[]⟩, .int .i64 0, .int .i64 0, .slice none 0 0] 24)
  have z1 : (w.alloc (.cells #[.int .i64 0, .string ⟨#[]⟩, .int .i64 0, .int .i64 0, .slice none 0 0] 24)).heap.size = w.heap.size + 1 := by simp
  generalize w.alloc (.cells #[.int .i64 0, .string ⟨#[]⟩, .int .i64 0, .int .i64 0, .slice none 0 0] 24) = w1 at *
  have h2 := below_box w1 (.cells #[.int .i64 u, .string ⟨#[]⟩, .int .i64 0, .int .i64 0, .slice none 0 0] 24)
  have g2 := box5 w1 (.int .i64 u) (.string ⟨#[]⟩) (.int .i64 0) (.int .i64 0) (.slice none 0 0) 24
  have z2 : (w1.alloc (.cells #[.int .i64 u, .string ⟨#[]⟩, .int .i64 0, .int .i64 0, .slice none 0 0] 24)).heap.size = w1.heap.size + 1 := by simp
  generalize w1.alloc (.cells #[.int .i64 u, .string ⟨#[]⟩, .int .i64 0, .int .i64 0, .slice none 0 0] 24) = w2 at *
  have h3 := below_box w2 (.cells #[.int .i64 z, .string ⟨#[]⟩, .int .i64 0, .int .i64 0, .slice none 0 0] 24)
  have g3 := box5 w2 (.int .i64 z) (.string ⟨#[]⟩) (.int .i64 0) (.int .i64 0) (.slice none 0 0) 24
  have z3 : (w2.alloc (.cells #[.int .i64 z, .string ⟨#[]⟩, .int .i64 0, .int .i64 0, .slice none 0 0] 24)).heap.size = w2.heap.size + 1 := by simp
  refine ⟨_, hidi rfl, h1.trans ((h2.trans (h3.mono (by omega))).mono (by omega)), by omega, ?_, ?_, ?_⟩
  · exact (h3.block _ (by omega)).trans ((h2.block _ (by omega)).trans g1)
  · have e := g2.below h3 (by omega)
    rw [z1] at e
    exact e
  · rw [show w.heap.size + 1 + 1 = w2.heap.size by omega]
    exact g3

/-- what a list of formulas reads as behind a store into the result's cells -/
theorem join_fin {P : Nat → Prop} {w W0 w5 : World} {R : Nat} {v : Value} {l : List Fm} (_ : ∀ b, P b → b < w.heap.size) (_ : Sv w R w5) (hne : ∀ b, (P b ∨ (W0.heap.size ≤ b ∧ b < w5.heap.size)) → b ≠ R) (h : FArgsP (fun b => P b ∨ (W0.heap.size ≤ b ∧ b < w5.heap.size)) w5 v l) (_ : Below w.heap.size w w5) (hge : w.heap.size ≤ W0.heap.size) :
    ∀ u1 u2 u3 u4 u5, FArgsP (NewP P w (((((w5.setCell ⟨R, 0, none⟩ u1).setCell ⟨R, 1, none⟩ u2).setCell ⟨R, 2, none⟩ u3).setCell ⟨R, 3, none⟩ u4).setCell ⟨R, 4, none⟩ u5)) (((((w5.setCell ⟨R, 0, none⟩ u1).setCell ⟨R, 1, none⟩ u2).setCell ⟨R, 2, none⟩ u3).setCell ⟨R, 3, none⟩ u4).setCell ⟨R, 4, none⟩ u5) v l := by
  intro u1 u2 u3 u4 u5
  refine (h.same fun b hb => set5_other w5 R b (hne b hb) _ _ _ _ _).mono fun b hb => ?_
  rcases hb with hb | ⟨h1, h2⟩
  · exact .inl hb
  · exact .inr ⟨by omega, by rw [set5_size]; exact h2⟩

set_option maxRecDepth 100000 in
set_option maxHeartbeats 4000000 in
theorem join_any (P : Nat → Prop) (op : Int) (l : List Fm) (v : Value) (w : World) (hv : FArgsP P w v l) (hP : ∀ b, P b → b < w.heap.size) (hop : op = 5 ∨ op = 6) (hn : (flatF op l).length ≤ 1000000) (hng : ∀ x ∈ flatF op l, x.op = 4 → x.args ≠ []) :
    Calls Tryz.prog 98 #[.int .i64 op, v] w fun e w' => ∃ r, e = .returned r ∧ FAtP (NewP P w w') w' r (joinF op l) ∧ Below w.heap.size w w' := by
  obtain ⟨o, c, rfl⟩ := hv.shape
  rcases hop with rfl | rfl
  · obtain ⟨W0, hW0, hB0, hz0, hres, hc5, hc6⟩ := three_open w 1 2
    have hzd : W0.drew.heap.size = W0.heap.size := rfl
    have hBd : Below w.heap.size w W0.drew := hB0.drew
    have hC1 := hidi (flat_any P 5 l (.slice o l.length c) W0.drew (hv.kept hBd hP) (fun b hb => by have := hP b hb; omega) hn)
    have hC2 : Hid (∀ (W4 : World) (r4 : Value), FlatPost P W0.drew W4 r4 (flatF 5 l) → W0.drew.heap.size ≤ W4.heap.size → Calls Tryz.prog 111 #[r4, .agg #[.int .i64 1, .string ⟨#[]⟩, .int .i64 0, .int .i64 0, .slice none 0 0], .agg #[.int .i64 2, .string ⟨#[]⟩, .int .i64 0, .int .i64 0, .slice none 0 0], .func (.func 113) #[] #[], .func (.func 19) #[] #[]] W4 fun e w' =>
        ∃ r, e = .returned r ∧ FArgsP (fun b => P b ∨ (W0.drew.heap.size ≤ b ∧ b < w'.heap.size)) w' r (settleF (flatF 5 l) (mkOp 1 []) (mkOp 2 [])) ∧ Below W0.drew.heap.size W4 w') := hidi fun W4 r4 hF hs =>
      settle_flat P W0.drew W4 r4 _ (mkOp 1 []) (mkOp 2 []) hF (fun b hb => by have := hP b hb; omega) hs hn (fits_op (by decide)) (fits_op (by decide)) rfl rfl hng
    have hk1 : Hid (∀ X, Below W0.drew.heap.size W0.drew X → X.cell? ⟨w.heap.size + 1, 0, none⟩ = some (.int .i64 1) ∧ X.cell? ⟨w.heap.size + 1, 1, none⟩ = some (.string ⟨#[]⟩) ∧ X.cell? ⟨w.heap.size + 1, 2, none⟩ = some (.int .i64 0) ∧ X.cell? ⟨w.heap.size + 1, 3, none⟩ = some (.int .i64 0) ∧ X.cell? ⟨w.heap.size + 1, 4, none⟩ = some (.slice none 0 0) ∧ X.cell? ⟨w.heap.size + 1 + 1, 0, none⟩ = some (.int .i64 2) ∧ X.cell? ⟨w.heap.size + 1 + 1, 1, none⟩ = some (.string ⟨#[]⟩) ∧ X.cell? ⟨w.heap.size + 1 + 1, 2, none⟩ = some (.int .i64 0) ∧ X.cell? ⟨w.heap.size + 1 + 1, 3, none⟩ = some (.int .i64 0) ∧ X.cell? ⟨w.heap.size + 1 + 1, 4, none⟩ = some (.slice none 0 0)) := hidi fun X hb => by
      obtain ⟨a0, a1, a2, a3, a4⟩ := hc5.out.below (below_undrew hb) (by omega)
      obtain ⟨b0, b1, b2, b3, b4⟩ := hc6.out.below (below_undrew hb) (by omega)
      rw [Nat.zero_add] at a1 a2 a3 a4 b1 b2 b3 b4
      exact ⟨a0, a1, a2, a3, a4, b0, b1, b2, b3, b4⟩
    have hk0 := hidi (hk1.out W0.drew (Below.refl _ _))
    have hN : Hid (joinF 5 l = nodeOf 5 (settleF (flatF 5 l) (mkOp 1 []) (mkOp 2 []))) := hidi rfl
    generalize hsf : settleF (flatF 5 l) (mkOp 1 []) (mkOp 2 []) = sf at *
    clear hv hn hng hsf
    go_enter Tryz.func98, Tryz.ntmps98
    go_wp2_with fail
    rw [hW0.out]
    go_region_held3 (fun X => X.cell? ⟨w.heap.size + 1, 0, none⟩ = some (.int .i64 1) ∧ X.cell? ⟨w.heap.size + 1, 1, none⟩ = some (.string ⟨#[]⟩) ∧ X.cell? ⟨w.heap.size + 1, 2, none⟩ = some (.int .i64 0) ∧ X.cell? ⟨w.heap.size + 1, 3, none⟩ = some (.int .i64 0) ∧ X.cell? ⟨w.heap.size + 1, 4, none⟩ = some (.slice none 0 0) ∧ X.cell? ⟨w.heap.size + 1 + 1, 0, none⟩ = some (.int .i64 2) ∧ X.cell? ⟨w.heap.size + 1 + 1, 1, none⟩ = some (.string ⟨#[]⟩) ∧ X.cell? ⟨w.heap.size + 1 + 1, 2, none⟩ = some (.int .i64 0) ∧ X.cell? ⟨w.heap.size + 1 + 1, 3, none⟩ = some (.int .i64 0) ∧ X.cell? ⟨w.heap.size + 1 + 1, 4, none⟩ = some (.slice none 0 0))
      (first | with_reducible exact hk0.out | with_reducible exact hk1.out _ hb9 | with_reducible exact hk1.out _ hb8.out)
      (first | (go_at_call 112; (with_reducible refine hC1.out.mono ?_); rintro e w4 ⟨r4, rfl, hF4, hb9⟩; have hF4' := hidi hF4; have hb9' := hidi hb9) | (go_at_call 111; (with_reducible refine (hC2.out _ _ hF4'.out hb9'.out.size).mono ?_); rintro e w5 ⟨r5, rfl, hA5, hb5⟩; have hb8 := hidi (hb9'.out.trans hb5); have hA5' := hidi hA5))
    have hzz := hb8.out.size
    have hre5 := hidi (Res5.below (show Res5 W0 w.heap.size from ⟨_, _, _, _, _, hres.out⟩) (below_undrew hb8.out))
    obtain ⟨a0, a1, a2, a3, a4, -⟩ := hk1.out _ hb8.out
    obtain ⟨-, -, -, -, -, -, m0, m1, m2, m3, m4⟩ := hre5.out.cells
    obtain ⟨j1, j2, j3, j4, j5, ⟨i0, i1, i2, i3, i4⟩, -⟩ := hre5.out.cells
    have hBw5 : Below w.heap.size w w5 := hBd.trans (hb8.out.mono (by omega))
    have hS5 : Sv w w.heap.size w5 := Sv.of_below hBw5
    have hA6 : Hid (FArgsP (NewP P w w5) w5 r5 sf) := hidi (hA5'.out.mono fun b hb => by
      rcases hb with hb | ⟨h1, h2⟩
      · exact .inl hb
      · exact .inr ⟨by omega, h2⟩)
    have hfin := hidi (join_fin (R := w.heap.size) hP hS5 (fun b hb => by
      rcases hb with hb | ⟨h1, h2⟩
      · have := hP b hb; omega
      · omega) (hA5'.out) hBw5 (by omega))
    have hne5 : Hid (∀ b, (P b ∨ (W0.drew.heap.size ≤ b ∧ b < w5.heap.size)) → b ≠ w.heap.size) := hidi fun b hb => by
      rcases hb with hb | ⟨h1, h2⟩
      · have := hP b hb; omega
      · omega
    have hge0 : w.heap.size ≤ W0.drew.heap.size := by omega
    clear hA6 hk0 hk1 hC1 hC2 hc5 hc6 hres hF4 hA5 hF4'
    match sf, hN, hA5', hfin with
    | [], hN, hA5', hfin =>
      obtain ⟨o7, c7, rfl⟩ := hA5'.out.shape
      simp only [List.length_nil]
      go_wp2_with fail
      (try simp only [Exit.inBlock, Exit.then])
      refine bodyPost_ret (results_cell_row rfl _ _ (w.heap.size) 24 _ (0, 0) _ rfl (hre5.out.set _ _ _ _ _) Tryz.underlying24 rfl fmSize) rfl ?_
      rw [hN.out]
      exact ⟨_, rfl, ⟨_, rfl, fits_op (by decide), .nil _ _⟩, set5_below hBw5 (Nat.le_refl _) _ _ _ _ _⟩
    | [x], hN, hA5', hfin =>
      obtain ⟨o7, c7, rfl⟩ := hA5'.out.shape
      obtain ⟨b7, f7, sl7, rfl, hb7, hc7, hf7, ha7⟩ := args_at0 hA5'.out rfl
      obtain ⟨o8, c8, rfl⟩ := ha7.shape
      have hfx := hidi (join_fin (R := w.heap.size) hP hS5 hne5.out ha7 hBw5 hge0)
      obtain ⟨x0, x1, x2, x3, x4⟩ := hc7
      simp only [List.length_cons, List.length_nil, Nat.zero_add]
      go_wp2_with fail
      (try simp only [Exit.inBlock, Exit.then])
      refine bodyPost_ret (results_cell_row rfl _ _ (w.heap.size) 24 _ (0, 0) _ rfl (hre5.out.set _ _ _ _ _) Tryz.underlying24 rfl fmSize) rfl ?_
      rw [hN.out]
      exact ⟨_, rfl, ⟨_, rfl, hf7, hfx.out _ _ _ _ _⟩, set5_below hBw5 (Nat.le_refl _) _ _ _ _ _⟩
    | x :: y :: l', hN, hA5', hfin =>
      have hlm := hA5'.out.len
      obtain ⟨o7, c7, rfl⟩ := hA5'.out.shape
      obtain ⟨L, hL⟩ : ∃ L, Hid ((x :: y :: l').length = L) := ⟨_, hidi rfl⟩
      have hL2 : 2 ≤ L := by rw [← hL.out]; simp
      rw [hL.out] at hlm hfin ⊢
      have e0 : ((L : Int) == 0) = false := by simp; omega
      have e1 : ((L : Int) == 1) = false := by simp; omega
      go_wp2_with fail
      (try simp only [Exit.inBlock, Exit.then])
      refine bodyPost_ret (results_cell_row rfl _ _ (w.heap.size) 24 _ (0, 0) _ rfl (hre5.out.set _ _ _ _ _) Tryz.underlying24 rfl fmSize) rfl ?_
      rw [hN.out]
      exact ⟨_, rfl, ⟨_, rfl, fits_op (by decide), hfin.out _ _ _ _ _⟩, set5_below hBw5 (Nat.le_refl _) _ _ _ _ _⟩
  · obtain ⟨W0, hW0, hB0, hz0, hres, hc5, hc6⟩ := three_open w 2 1
    have hzd : W0.drew.heap.size = W0.heap.size := rfl
    have hBd : Below w.heap.size w W0.drew := hB0.drew
    have hC1 := hidi (flat_any P 6 l (.slice o l.length c) W0.drew (hv.kept hBd hP) (fun b hb => by have := hP b hb; omega) hn)
    have hC2 : Hid (∀ (W4 : World) (r4 : Value), FlatPost P W0.drew W4 r4 (flatF 6 l) → W0.drew.heap.size ≤ W4.heap.size → Calls Tryz.prog 111 #[r4, .agg #[.int .i64 2, .string ⟨#[]⟩, .int .i64 0, .int .i64 0, .slice none 0 0], .agg #[.int .i64 1, .string ⟨#[]⟩, .int .i64 0, .int .i64 0, .slice none 0 0], .func (.func 113) #[] #[], .func (.func 19) #[] #[]] W4 fun e w' =>
        ∃ r, e = .returned r ∧ FArgsP (fun b => P b ∨ (W0.drew.heap.size ≤ b ∧ b < w'.heap.size)) w' r (settleF (flatF 6 l) (mkOp 2 []) (mkOp 1 [])) ∧ Below W0.drew.heap.size W4 w') := hidi fun W4 r4 hF hs =>
      settle_flat P W0.drew W4 r4 _ (mkOp 2 []) (mkOp 1 []) hF (fun b hb => by have := hP b hb; omega) hs hn (fits_op (by decide)) (fits_op (by decide)) rfl rfl hng
    have hk1 : Hid (∀ X, Below W0.drew.heap.size W0.drew X → X.cell? ⟨w.heap.size + 1, 0, none⟩ = some (.int .i64 2) ∧ X.cell? ⟨w.heap.size + 1, 1, none⟩ = some (.string ⟨#[]⟩) ∧ X.cell? ⟨w.heap.size + 1, 2, none⟩ = some (.int .i64 0) ∧ X.cell? ⟨w.heap.size + 1, 3, none⟩ = some (.int .i64 0) ∧ X.cell? ⟨w.heap.size + 1, 4, none⟩ = some (.slice none 0 0) ∧ X.cell? ⟨w.heap.size + 1 + 1, 0, none⟩ = some (.int .i64 1) ∧ X.cell? ⟨w.heap.size + 1 + 1, 1, none⟩ = some (.string ⟨#[]⟩) ∧ X.cell? ⟨w.heap.size + 1 + 1, 2, none⟩ = some (.int .i64 0) ∧ X.cell? ⟨w.heap.size + 1 + 1, 3, none⟩ = some (.int .i64 0) ∧ X.cell? ⟨w.heap.size + 1 + 1, 4, none⟩ = some (.slice none 0 0)) := hidi fun X hb => by
      obtain ⟨a0, a1, a2, a3, a4⟩ := hc5.out.below (below_undrew hb) (by omega)
      obtain ⟨b0, b1, b2, b3, b4⟩ := hc6.out.below (below_undrew hb) (by omega)
      rw [Nat.zero_add] at a1 a2 a3 a4 b1 b2 b3 b4
      exact ⟨a0, a1, a2, a3, a4, b0, b1, b2, b3, b4⟩
    have hk0 := hidi (hk1.out W0.drew (Below.refl _ _))
    have hN : Hid (joinF 6 l = nodeOf 6 (settleF (flatF 6 l) (mkOp 2 []) (mkOp 1 []))) := hidi rfl
    generalize hsf : settleF (flatF 6 l) (mkOp 2 []) (mkOp 1 []) = sf at *
    clear hv hn hng hsf
    go_enter Tryz.func98, Tryz.ntmps98
    go_wp2_with fail
    rw [hW0.out]
    go_region_held3 (fun X => X.cell? ⟨w.heap.size + 1, 0, none⟩ = some (.int .i64 2) ∧ X.cell? ⟨w.heap.size + 1, 1, none⟩ = some (.string ⟨#[]⟩) ∧ X.cell? ⟨w.heap.size + 1, 2, none⟩ = some (.int .i64 0) ∧ X.cell? ⟨w.heap.size + 1, 3, none⟩ = some (.int .i64 0) ∧ X.cell? ⟨w.heap.size + 1, 4, none⟩ = some (.slice none 0 0) ∧ X.cell? ⟨w.heap.size + 1 + 1, 0, none⟩ = some (.int .i64 1) ∧ X.cell? ⟨w.heap.size + 1 + 1, 1, none⟩ = some (.string ⟨#[]⟩) ∧ X.cell? ⟨w.heap.size + 1 + 1, 2, none⟩ = some (.int .i64 0) ∧ X.cell? ⟨w.heap.size + 1 + 1, 3, none⟩ = some (.int .i64 0) ∧ X.cell? ⟨w.heap.size + 1 + 1, 4, none⟩ = some (.slice none 0 0))
      (first | with_reducible exact hk0.out | with_reducible exact hk1.out _ hb9 | with_reducible exact hk1.out _ hb8.out)
      (first | (go_at_call 112; (with_reducible refine hC1.out.mono ?_); rintro e w4 ⟨r4, rfl, hF4, hb9⟩; have hF4' := hidi hF4; have hb9' := hidi hb9) | (go_at_call 111; (with_reducible refine (hC2.out _ _ hF4'.out hb9'.out.size).mono ?_); rintro e w5 ⟨r5, rfl, hA5, hb5⟩; have hb8 := hidi (hb9'.out.trans hb5); have hA5' := hidi hA5))
    have hzz := hb8.out.size
    have hre5 := hidi (Res5.below (show Res5 W0 w.heap.size from ⟨_, _, _, _, _, hres.out⟩) (below_undrew hb8.out))
    obtain ⟨a0, a1, a2, a3, a4, -⟩ := hk1.out _ hb8.out
    obtain ⟨-, -, -, -, -, -, m0, m1, m2, m3, m4⟩ := hre5.out.cells
    obtain ⟨j1, j2, j3, j4, j5, ⟨i0, i1, i2, i3, i4⟩, -⟩ := hre5.out.cells
    have hBw5 : Below w.heap.size w w5 := hBd.trans (hb8.out.mono (by omega))
    have hS5 : Sv w w.heap.size w5 := Sv.of_below hBw5
    have hA6 : Hid (FArgsP (NewP P w w5) w5 r5 sf) := hidi (hA5'.out.mono fun b hb => by
      rcases hb with hb | ⟨h1, h2⟩
      · exact .inl hb
      · exact .inr ⟨by omega, h2⟩)
    have hfin := hidi (join_fin (R := w.heap.size) hP hS5 (fun b hb => by
      rcases hb with hb | ⟨h1, h2⟩
      · have := hP b hb; omega
      · omega) (hA5'.out) hBw5 (by omega))
    have hne5 : Hid (∀ b, (P b ∨ (W0.drew.heap.size ≤ b ∧ b < w5.heap.size)) → b ≠ w.heap.size) := hidi fun b hb => by
      rcases hb with hb | ⟨h1, h2⟩
      · have := hP b hb; omega
      · omega
    have hge0 : w.heap.size ≤ W0.drew.heap.size := by omega
    clear hA6 hk0 hk1 hC1 hC2 hc5 hc6 hres hF4 hA5 hF4'
    match sf, hN, hA5', hfin with
    | [], hN, hA5', hfin =>
      obtain ⟨o7, c7, rfl⟩ := hA5'.out.shape
      simp only [List.length_nil]
      go_wp2_with fail
      (try simp only [Exit.inBlock, Exit.then])
      refine bodyPost_ret (results_cell_row rfl _ _ (w.heap.size) 24 _ (0, 0) _ rfl (hre5.out.set _ _ _ _ _) Tryz.underlying24 rfl fmSize) rfl ?_
      rw [hN.out]
      exact ⟨_, rfl, ⟨_, rfl, fits_op (by decide), .nil _ _⟩, set5_below hBw5 (Nat.le_refl _) _ _ _ _ _⟩
    | [x], hN, hA5', hfin =>
      obtain ⟨o7, c7, rfl⟩ := hA5'.out.shape
      obtain ⟨b7, f7, sl7, rfl, hb7, hc7, hf7, ha7⟩ := args_at0 hA5'.out rfl
      obtain ⟨o8, c8, rfl⟩ := ha7.shape
      have hfx := hidi (join_fin (R := w.heap.size) hP hS5 hne5.out ha7 hBw5 hge0)
      obtain ⟨x0, x1, x2, x3, x4⟩ := hc7
      simp only [List.length_cons, List.length_nil, Nat.zero_add]
      go_wp2_with fail
      (try simp only [Exit.inBlock, Exit.then])
      refine bodyPost_ret (results_cell_row rfl _ _ (w.heap.size) 24 _ (0, 0) _ rfl (hre5.out.set _ _ _ _ _) Tryz.underlying24 rfl fmSize) rfl ?_
      rw [hN.out]
      exact ⟨_, rfl, ⟨_, rfl, hf7, hfx.out _ _ _ _ _⟩, set5_below hBw5 (Nat.le_refl _) _ _ _ _ _⟩
    | x :: y :: l', hN, hA5', hfin =>
      have hlm := hA5'.out.len
      obtain ⟨o7, c7, rfl⟩ := hA5'.out.shape
      obtain ⟨L, hL⟩ : ∃ L, Hid ((x :: y :: l').length = L) := ⟨_, hidi rfl⟩
      have hL2 : 2 ≤ L := by rw [← hL.out]; simp
      rw [hL.out] at hlm hfin ⊢
      have e0 : ((L : Int) == 0) = false := by simp; omega
      have e1 : ((L : Int) == 1) = false := by simp; omega
      go_wp2_with fail
      (try simp only [Exit.inBlock, Exit.then])
      refine bodyPost_ret (results_cell_row rfl _ _ (w.heap.size) 24 _ (0, 0) _ rfl (hre5.out.set _ _ _ _ _) Tryz.underlying24 rfl fmSize) rfl ?_
      rw [hN.out]
      exact ⟨_, rfl, ⟨_, rfl, fits_op (by decide), hfin.out _ _ _ _ _⟩, set5_below hBw5 (Nat.le_refl _) _ _ _ _ _⟩

end Go.Proofs.YtbnnjbfbifihaaaGreatDoor

/-
  The contracts of package formula's canons and canon.
-/
namespace Go.Proofs.YtbnnjbfbifihaaaGreatDoor
open Go.RowKit
open Go.Sort hiding Below

theorem wpList_append_one {ops : Array Oper} {rest : List Oper} {o : Oper} {a : Act} {w : World} {Q : Exit → Act → World → Prop} (hgd : o.guard = none) (s x : Operand)
    (ho : o.op = .call { callee := .builtin .append, args := #[s, x], argTypes := #[22, 22] })
    (base : Nat) (v : Value) (n : Nat) (ys : List Value) (hs : a.eval s = v) (hown : w.ownsRow base 24 5 v n ys) (hb : base ≤ w.heap.size) (ad : Addr) (c : Nat) (f : Fm) (sl : Value) (hxv : a.eval x = .slice (some ad) 1 c)
    (hnews : ∀ (j : Nat) (u : Value), (fmCells [(f, sl)])[j]? = some u → w.cell? (ad.add j) = some u) (h1 : ∀ u ∈ fmCells [(f, sl)], u.oneCell' = true) (h6 : n + 1 ≤ 1000000)
    (h : ∀ v' w', w'.ownsRow base 24 5 v' (n + 1) (ys ++ fmCells [(f, sl)]) → w.grownBy w' v.ownBlock → (v'.ownBlock = v.ownBlock ∨ v'.ownBlock = some w.heap.size) → wpList Tryz.prog ops Q rest (a.put o.dst v') w') : wpList Tryz.prog ops Q (o :: rest) a w := by
  refine wpList_plain hgd fun _ hK => ?_
  obtain ⟨i0, hi, hz0, hz1, hz2⟩ := info_parts Tryz.fmInfo
  obtain ⟨v', w', hr, r2, r3, r4, r5⟩ := run_append_own_at (P := Tryz.prog) (w := w) base 22 o.type 24 i0 _ 5 64 Tryz.underlying22 hi hz0 hz1 hz2 rfl (by decide) v n ys hown ad 1 c (fmCells [(f, sl)]) rfl hnews h1 (by unfold maxLen; omega) (by omega) hb
  unfold Oper.wp execOp
  simp only [ho, resolve, invoke, builtin, Sem.run_bind, Sem.run_pure, Result.andThen_ok, List.map_toArray, List.map_cons, List.map_nil, hs, hxv, hr]
  exact hK _ _ (h v' w' r2 r3 r5)

set_option maxRecDepth 100000 in
set_option maxHeartbeats 4000000 in
theorem canons_any (l : List Fm) (H : ∀ x ∈ l, ∀ (P : Nat → Prop) (v : Value) (w : World), FAtP P w v x → (∀ b, P b → b < w.heap.size) →
      Calls Tryz.prog 70 #[v] w fun e w' => ∃ r, e = .returned r ∧ FAtP (NewP P w w') w' r (canonF x) ∧ Below w.heap.size w w')
    (P : Nat → Prop) (v : Value) (w : World) (hv : FArgsP P w v l) (hP : ∀ b, P b → b < w.heap.size) (hn : l.length ≤ 900000) :
    Calls Tryz.prog 97 #[v] w fun e w' => ∃ r, e = .returned r ∧ FArgsP (NewP P w w') w' r (l.map canonF) ∧ Below w.heap.size w w' := by
  obtain ⟨o, c, rfl⟩ := hv.shape
  go_enter Tryz.func97, Tryz.ntmps97
  go_wp2_with fail
  go_loopw [3, 8] (fun lv a wr => ∃ (k : Nat) (es : List (Fm × Value)), k ≤ l.length ∧ a = .int .i64 (k : Int) ∧ Hid (es.map Prod.fst = (l.take k).map canonF) ∧ Hid (OwnFs P w.heap.size wr lv es) ∧ Below w.heap.size w wr) (fun _ a _ => l.length - (intOf a).toNat)
  case atStart => exact ⟨0, [], Nat.zero_le _, rfl, hidi (by simp), hidi (ownFs_nil _ _ _), Below.refl _ _⟩
  case round =>
    obtain ⟨k, es, hk, rfl, hes, hown, hB⟩ := hrel
    have hzr := hB.size
    by_cases hkl : k < l.length
    · obtain ⟨b, off, rfl, hb, hat⟩ := hv.at (by omega)
      obtain ⟨sl, hc5, hF⟩ := hat k hkl
      have hbl := hP b hb
      obtain ⟨e0, e1, e2, e3, e4⟩ := hc5.below hB hbl
      obtain ⟨sl', esl, hfx, hax⟩ := hF
      obtain rfl : sl = sl' := by simpa [fval] using esl
      have hstep : Hid ((l.take (k + 1)).map canonF = (l.take k).map canonF ++ [canonF l[k]]) := by
        unfold Hid; rw [List.take_succ_eq_append_getElem hkl, List.map_append]; rfl
      have hlen : Hid (es.length = k) := by
        unfold Hid
        have := congrArg List.length hes.out
        rw [List.length_map, List.length_map, List.length_take] at this
        omega
      have hH := hidi (H l[k] (List.getElem_mem hkl))
      generalize l[k] = x at *
      obtain ⟨ox, cx, rfl⟩ := hax.shape
      obtain ⟨X1, hX1⟩ : ∃ X1, Hid (wr.alloc (.cells #[.int .i64 x.op, .string x.name, .int .i64 x.val, .int .i64 x.bound, .slice ox x.args.length cx] 24) = X1) := ⟨_, hidi rfl⟩
      have hB1 : Below wr.heap.size wr X1 := by rw [← hX1.out]; exact below_box _ _
      have hz1 : X1.heap.size = wr.heap.size + 1 := by rw [← hX1.out]; simp
      have hbx1 : Cells5 X1 wr.heap.size 0 (.int .i64 x.op) (.string x.name) (.int .i64 x.val) (.int .i64 x.bound) (.slice ox x.args.length cx) := by rw [← hX1.out]; exact box5 _ _ _ _ _ _ _
      obtain ⟨x0, x1, x2, x3, x4⟩ := hbx1
      rw [Nat.zero_add] at x1 x2 x3 x4
      have hcall := hidi (hH.out P (.agg #[.int .i64 x.op, .string x.name, .int .i64 x.val, .int .i64 x.bound, .slice ox x.args.length cx]) X1 ⟨_, rfl, hfx, (hax.kept hB hP).kept hB1 (fun b hb => by have := hP b hb; omega)⟩ (fun b hb => by have := hP b hb; omega))
      rw [← hX1.out] at x0 x1 x2 x3 x4
      go_wp2_with fail
      rw [hX1.out]
      refine hcall.out.mono ?_
      rintro e w2 ⟨r, rfl, hr, hb2⟩
      obtain ⟨y, hy⟩ : ∃ y, Hid (canonF x = y) := ⟨_, hidi rfl⟩
      rw [hy.out] at hr hstep
      obtain ⟨oy, cy, rfl, hfy, hay⟩ := hr.open
      have hz2 := hb2.size
      have hBr2 : Below wr.heap.size wr w2 := hB1.trans (hb2.mono (by omega))
      have hown2 := hidi (hown.out.keep (w' := w2) (by omega) (fun b hb => by
        rcases hb with hb | ⟨h1, h2⟩
        · have := hP b hb; exact hBr2.block b (by omega)
        · exact hBr2.block b h2))
      have hlt := hidi hown.out.lt
      have haw : Hid (FArgsP (Away P w.heap.size w2 u3) w2 (.slice oy y.args.length cy) y.args) := hidi (hay.mono fun b hb => by
        rcases hb with hb | ⟨h1, h2⟩
        · exact .inl hb
        · exact .inr ⟨by omega, h2, fun e => by have := (hlt.out b e).2; omega⟩)
      obtain ⟨X2, hX2⟩ : ∃ X2, Hid (w2.alloc (.cells #[.int .i64 y.op, .string y.name, .int .i64 y.val, .int .i64 y.bound, .slice oy y.args.length cy] 24) = X2) := ⟨_, hidi rfl⟩
      have hB2 : Below w2.heap.size w2 X2 := by rw [← hX2.out]; exact below_box _ _
      have hz3 : X2.heap.size = w2.heap.size + 1 := by rw [← hX2.out]; simp
      have hnews := hidi (news_one w2 y (.slice oy y.args.length cy))
      rw [hX2.out] at hnews
      have hown3 := hidi ((hown2.out.1.alloc (.cells #[.int .i64 y.op, .string y.name, .int .i64 y.val, .int .i64 y.bound, .slice oy y.args.length cy] 24)))
      rw [hX2.out, hlen.out] at hown3
      go_wp2_with (at_builtin; rw [hX2.out]; refine wpList_append_one rfl (.tmp 12) (.tmp 15) rfl w.heap.size _ k (fmCells es) rfl hown3.out (by omega) ⟨w2.heap.size, 0, none⟩ 1 y (.slice oy y.args.length cy) rfl hnews.out (fmCells_one (P := Away P w.heap.size w2 u3) (w := w2) (fun e he => by
          obtain rfl : e = (y, .slice oy y.args.length cy) := by simpa using he
          exact ⟨hfy, haw.out⟩)) (by omega) ?_)
      intro v' w' hown4 hgr4 hat4
      have hz4 := hgr4.size
      have hsn := hidi (OwnFs.snoc (W := X2) hown2.out hfy haw.out hP (by omega) hB2 (by rw [hlen.out]; exact hown4) hgr4 (by
        rcases hat4 with h | h
        · exact .inl h
        · exact .inr ⟨_, h, by omega⟩))
      have hBn : Hid (Below w.heap.size w w') := by
        refine ⟨hgr4.os.trans (hB2.os.trans (hBr2.os.trans hB.os)), hgr4.tape.trans (hB2.tape.trans (hBr2.tape.trans hB.tape)), hgr4.output.trans (hB2.output.trans (hBr2.output.trans hB.output)), by omega, fun b hb => ?_⟩
        rw [hgr4.block b (by omega) (fun e => by have := (hlt.out b e.symm).1; omega), hB2.block b (by omega), hBr2.block b (by omega), hB.block b hb]
      have hes2 : Hid ((es ++ [(y, Value.slice oy y.args.length cy)]).map Prod.fst = (l.take (k + 1)).map canonF) := by unfold Hid; rw [List.map_append, hes.out, hstep.out]; rfl
      clear hown4 hgr4 hat4
      go_wp2
      go_roundw
      case rel => exact ⟨k + 1, es ++ [(y, Value.slice oy y.args.length cy)], by omega, by go_num, hes2, hsn, hBn.out⟩
      case measure => simp only [intOf]; omega
    · obtain rfl : k = l.length := by omega
      have hend : Hid (es.map Prod.fst = l.map canonF) := by unfold Hid; rw [hes.out, List.take_length]
      go_wp2
      go_ret
      exact ⟨_, rfl, by rw [← hend.out]; exact hown.out.args, hB⟩

theorem fin_set {P Pin : Nat → Prop} {w W : World} {R : Nat} {v : Value} {l : List Fm} (h : FArgsP Pin W v l) (hPin : ∀ b, Pin b → b ≠ R ∧ (P b ∨ (w.heap.size ≤ b ∧ b < W.heap.size))) :
    ∀ u1 u2 u3 u4 u5, FArgsP (NewP P w (((((W.setCell ⟨R, 0, none⟩ u1).setCell ⟨R, 1, none⟩ u2).setCell ⟨R, 2, none⟩ u3).setCell ⟨R, 3, none⟩ u4).setCell ⟨R, 4, none⟩ u5)) (((((W.setCell ⟨R, 0, none⟩ u1).setCell ⟨R, 1, none⟩ u2).setCell ⟨R, 2, none⟩ u3).setCell ⟨R, 3, none⟩ u4).setCell ⟨R, 4, none⟩ u5) v l := by
  intro u1 u2 u3 u4 u5
  refine (h.same fun b hb => set5_other W R b (hPin b hb).1 _ _ _ _ _).mono fun b hb => ?_
  rcases (hPin b hb).2 with hb | ⟨h1, h2⟩
  · exact .inl hb
  · exact .inr ⟨h1, by rw [set5_size]; exact h2⟩

/-- canon's world behind the store of the arguments' canonical forms -/
theorem canon_open (P : Nat → Prop) (w W0 w3 : World) (a1 a2 a3 a4 a5 r3 : Value) (A : List Fm) (hP : ∀ b, P b → b < w.heap.size) (hz0 : W0.heap.size = w.heap.size + 2) (hB0 : Below w.heap.size w W0)
    (hbox : W0.heap[w.heap.size]? = some (.cells #[a1, a2, a3, a4, a5] 24 (0, 0))) (hres : Res5 W0 (w.heap.size + 1)) (hb3 : Below W0.heap.size W0 w3) (hA : FArgsP (NewP P W0 w3) w3 r3 A) :
    ∃ W4, Hid (w3.setCell ⟨w.heap.size, 4, none⟩ r3 = W4) ∧ W4.heap.size = w3.heap.size ∧ Below w.heap.size w W4 ∧ Hid (W4.heap[w.heap.size]? = some (.cells #[a1, a2, a3, a4, r3] 24 (0, 0))) ∧ Hid (Res5 W4 (w.heap.size + 1)) ∧ Hid (FArgsP (NewP P W0 w3) W4 r3 A) ∧
      w3.cell? ⟨w.heap.size, 4, none⟩ = some a5 ∧ w3.frozen? ⟨w.heap.size, 4, none⟩ = false := by
  have hz3 := hb3.size
  have hbox3 := (hb3.block w.heap.size (by omega)).trans hbox
  have hoth : ∀ b, b ≠ w.heap.size → (w3.setCell ⟨w.heap.size, 4, none⟩ r3).heap[b]? = w3.heap[b]? := fun b hb => Below.heap_setCell _ _ _ _ hb
  have hzz : (w3.setCell ⟨w.heap.size, 4, none⟩ r3).heap.size = w3.heap.size := by simp [World.setCell]
  refine ⟨_, hidi rfl, hzz, ⟨hb3.os.trans hB0.os, hb3.tape.trans hB0.tape, hb3.output.trans hB0.output, by omega, fun b hb => ?_⟩, ?_, ?_, ?_, cell_of_row w3 w.heap.size 4 _ _ _ hbox3, by simp [World.frozen?, hbox3]⟩
  · rw [hoth b (by omega), hb3.block b (by omega), hB0.block b hb]
  · unfold Hid
    simp only [World.setCell, Array.getElem?_modify, if_pos, hbox3, Option.map_some]
    rfl
  · obtain ⟨n1, n2, n3, n4, n5, hn⟩ := hres
    exact ⟨n1, n2, n3, n4, n5, (hoth _ (by omega)).trans ((hb3.block _ (by omega)).trans hn)⟩
  · refine hA.same fun b hb => hoth b ?_
    rcases hb with hb | ⟨h1, h2⟩
    · have := hP b hb; omega
    · omega

theorem fm2_box {w W0 : World} {a1 a2 a3 a4 a5 b1 b2 b3 b4 b5 : Value} (h : Hid ((w.alloc (.cells #[a1, a2, a3, a4, a5] 24)).alloc (.cells #[b1, b2, b3, b4, b5] 24) = W0)) : W0.heap[w.heap.size]? = some (.cells #[a1, a2, a3, a4, a5] 24 (0, 0)) ∧ W0.heap.size = w.heap.size + 2 := by
  rw [← h.out]
  exact ⟨(Below.heap_alloc _ _ _ (by simp)).trans (heap_alloc_new w _), by simp⟩

end Go.Proofs.YtbnnjbfbifihaaaGreatDoor

/-
  The contract of package formula's canon.
-/
namespace Go.Proofs.YtbnnjbfbifihaaaGreatDoor
open Go.RowKit
open Go.Sort hiding Below

theorem canonN_else {o : Int} {n : ByteArray} {v b : Int} {a : List Fm} (h5 : o ≠ 5) (h6 : o ≠ 6) (h8 : o ≠ 8) (h9 : o ≠ 9) (h10 : o ≠ 10) : canonN o n v b a = .mk o n v b a := by
  unfold canonN
  rw [if_neg (by omega), if_neg h8, if_neg h9, if_neg h10]

theorem fits_mk {f : Fm} {fo : Int} {A : List Fm} (h : Fits f) (ho : f.op = fo) : Fits (.mk fo f.name f.val f.bound A) := by subst ho; exact h

set_option maxRecDepth 100000 in
set_option maxHeartbeats 8000000 in
theorem canon_any (f : Fm) : ∀ (P : Nat → Prop) (v : Value) (w : World), FAtP P w v f → (∀ b, P b → b < w.heap.size) → nodesB f = true → f.nodes ≤ 900000 →
    Calls Tryz.prog 70 #[v] w fun e w' => ∃ r, e = .returned r ∧ FAtP (NewP P w w') w' r (canonF f) ∧ Below w.heap.size w w' := by
  induction f using Fm.ind with
  | h f ih =>
    intro P v w hv hP hnb hnn
    obtain ⟨o, c, rfl, hfit, hA⟩ := hv.open
    obtain ⟨W0, hW0, hB0, -, -, -⟩ := fm2_open w (.int .i64 f.op) (.string f.name) (.int .i64 f.val) (.int .i64 f.bound) (.slice o f.args.length c) (.int .i64 0) (.string ⟨#[]⟩) (.int .i64 0) (.int .i64 0) (.slice none 0 0)
    obtain ⟨hbox, hz0⟩ := fm2_box hW0
    have hres := fm2_res hW0
    have hcall := hidi (canons_any f.args (fun x hx P v w h1 h2 => ih x hx P v w h1 h2 (nodesB_arg hnb hx) (by
      obtain ⟨k, hk, rfl⟩ := List.getElem_of_mem hx
      have h3 := Fm.nodes_get hk
      rw [Fm.nodes_eq f] at hnn
      omega)) P (.slice o f.args.length c) W0 (hA.kept hB0 hP) (fun b hb => by have := hP b hb; omega) (by
      have h3 := len_nodesL f.args
      rw [Fm.nodes_eq f] at hnn
      omega))
    clear ih
    have x4 := cell_of_row W0 w.heap.size 4 _ _ _ hbox
    rw [← hW0.out] at x4
    have har := hidi (nodeB_arity (nodesB_self hnb))
    have hjoin := hidi (fun op => join_asks (op := op) (l := f.args) (fun x hx => nodesB_arg hnb hx) (by rw [Fm.nodes_eq f] at hnn; omega))
    have hAl : Hid ((f.args.map canonF).length = f.args.length) := by unfold Hid; rw [List.length_map]
    have hN := hidi (canonF_eq f)
    go_enter Tryz.func70, Tryz.ntmps70
    go_wp2_with fail
    rw [hW0.out]
    refine hcall.out.mono ?_
    rintro e w3 ⟨r3, rfl, hA3, hb3⟩
    have hz3 := hb3.size
    obtain ⟨A, hAeq⟩ : ∃ A, Hid (f.args.map canonF = A) := ⟨_, hidi rfl⟩
    rw [hAeq.out] at hA3 hAl hN
    have hjoin' : Hid (∀ op, (flatF op A).length ≤ 1000000 ∧ ∀ x ∈ flatF op A, x.op = 4 → x.args ≠ []) := by
      unfold Hid
      rw [← hAeq.out]
      exact hjoin.out
    obtain ⟨o3, c3, rfl⟩ := hA3.shape
    obtain ⟨W4, hW4, hz4, hB4, hbox4, hres4, hA4, q4, fr4⟩ := canon_open P w W0 w3 _ _ _ _ _ _ A hP hz0 hB0 hbox hres hb3 hA3
    have hPin : Hid (∀ b, NewP P W0 w3 b → b < W4.heap.size ∧ b ≠ w.heap.size ∧ b ≠ w.heap.size + 1 ∧ (P b ∨ (w.heap.size ≤ b ∧ b < W4.heap.size))) := hidi fun b hb => by
      rcases hb with hb | ⟨h1, h2⟩
      · have := hP b hb; exact ⟨by omega, by omega, by omega, .inl hb⟩
      · exact ⟨by omega, by omega, by omega, .inr ⟨by omega, by omega⟩⟩
    have hx := hidi hfit
    clear hbox hres hA hA3 hcall x4 hjoin hAeq hv hnb hnn hfit
    have y0 := cell_of_row W4 w.heap.size 0 _ _ _ hbox4.out
    have y1 := cell_of_row W4 w.heap.size 1 _ _ _ hbox4.out
    have y2 := cell_of_row W4 w.heap.size 2 _ _ _ hbox4.out
    have y3 := cell_of_row W4 w.heap.size 3 _ _ _ hbox4.out
    have y4 := cell_of_row W4 w.heap.size 4 _ _ _ hbox4.out
    obtain ⟨-, -, -, -, -, -, m0, m1, m2, m3, m4⟩ := hres4.out.cells
    obtain ⟨j1, j2, j3, j4, j5, ⟨i0, i1, i2, i3, i4⟩, -⟩ := hres4.out.cells
    have hres4' : Hid (Res5 W4 (w.heap.size + 1)) := hres4
    generalize hop : f.op = fo at *
    have hop := hidi hop
    by_cases h5 : fo = 5
    · subst h5
      have hj := hidi (join_any (NewP P W0 w3) 5 A _ W4 hA4.out (fun b hb => (hPin.out b hb).1) (by decide) (hjoin'.out 5).1 (hjoin'.out 5).2)
      have hC : Hid (canonF f = joinF 5 A) := by
        unfold Hid
        rw [hN.out]
        rfl
      rw [hW4.out.symm] at y0 y1 y2 y3 y4
      go_wp2_with fail
      rw [hW4.out]
      refine hj.out.mono ?_
      rintro e w5 ⟨r5, rfl, hr5, hb5⟩
      obtain ⟨J, hJ⟩ : ∃ J, Hid (joinF 5 A = J) := ⟨_, hidi rfl⟩
      rw [hJ.out] at hr5 hC
      obtain ⟨o5, c5, rfl, hf5, ha5⟩ := hr5.open
      have hz5 := hb5.size
      have hre5 := hidi (hres4'.out.below hb5)
      clear m0 m1 m2 m3 m4 i0 i1 i2 i3 i4
      obtain ⟨-, -, -, -, -, -, m0, m1, m2, m3, m4⟩ := hre5.out.cells
      obtain ⟨j1, j2, j3, j4, j5, ⟨i0, i1, i2, i3, i4⟩, -⟩ := hre5.out.cells
      have hfin := hidi (fin_set (P := P) (w := w) (R := w.heap.size + 1) ha5 (fun b hb => by
        rcases hb with hb | ⟨h1, h2⟩
        · obtain ⟨g1, g2, g3, g4⟩ := hPin.out b hb
          refine ⟨g3, ?_⟩
          rcases g4 with g4 | g4
          · exact .inl g4
          · exact .inr ⟨g4.1, by omega⟩
        · exact ⟨by omega, .inr ⟨by omega, h2⟩⟩))
      have hB5 : Below w.heap.size w w5 := hB4.trans (hb5.mono (by omega))
      go_wp2_with fail
      (try simp only [Exit.inBlock, Exit.then])
      refine bodyPost_ret (results_cell_row rfl _ _ (w.heap.size + 1) 24 _ (0, 0) _ rfl (hre5.out.set _ _ _ _ _) Tryz.underlying24 rfl fmSize) rfl ?_
      rw [hC.out]
      exact ⟨_, rfl, ⟨_, rfl, hf5, hfin.out _ _ _ _ _⟩, set5_below hB5 (Nat.le_succ _) _ _ _ _ _⟩
    by_cases h6 : fo = 6
    · subst h6
      have hj := hidi (join_any (NewP P W0 w3) 6 A _ W4 hA4.out (fun b hb => (hPin.out b hb).1) (by decide) (hjoin'.out 6).1 (hjoin'.out 6).2)
      have hC : Hid (canonF f = joinF 6 A) := by
        unfold Hid
        rw [hN.out]
        rfl
      rw [hW4.out.symm] at y0 y1 y2 y3 y4
      go_wp2_with fail
      rw [hW4.out]
      refine hj.out.mono ?_
      rintro e w5 ⟨r5, rfl, hr5, hb5⟩
      obtain ⟨J, hJ⟩ : ∃ J, Hid (joinF 6 A = J) := ⟨_, hidi rfl⟩
      rw [hJ.out] at hr5 hC
      obtain ⟨o5, c5, rfl, hf5, ha5⟩ := hr5.open
      have hz5 := hb5.size
      have hre5 := hidi (hres4'.out.below hb5)
      clear m0 m1 m2 m3 m4 i0 i1 i2 i3 i4
      obtain ⟨-, -, -, -, -, -, m0, m1, m2, m3, m4⟩ := hre5.out.cells
      obtain ⟨j1, j2, j3, j4, j5, ⟨i0, i1, i2, i3, i4⟩, -⟩ := hre5.out.cells
      have hfin := hidi (fin_set (P := P) (w := w) (R := w.heap.size + 1) ha5 (fun b hb => by
        rcases hb with hb | ⟨h1, h2⟩
        · obtain ⟨g1, g2, g3, g4⟩ := hPin.out b hb
          refine ⟨g3, ?_⟩
          rcases g4 with g4 | g4
          · exact .inl g4
          · exact .inr ⟨g4.1, by omega⟩
        · exact ⟨by omega, .inr ⟨by omega, h2⟩⟩))
      have hB5 : Below w.heap.size w w5 := hB4.trans (hb5.mono (by omega))
      go_wp2_with fail
      (try simp only [Exit.inBlock, Exit.then])
      refine bodyPost_ret (results_cell_row rfl _ _ (w.heap.size + 1) 24 _ (0, 0) _ rfl (hre5.out.set _ _ _ _ _) Tryz.underlying24 rfl fmSize) rfl ?_
      rw [hC.out]
      exact ⟨_, rfl, ⟨_, rfl, hf5, hfin.out _ _ _ _ _⟩, set5_below hB5 (Nat.le_succ _) _ _ _ _ _⟩
    by_cases h8 : fo = 8
    · subst h8
      obtain ⟨x, l, hxl⟩ : ∃ x l, A = x :: l := by
        cases h : A with
        | nil =>
          exfalso
          rw [h] at hAl
          exact har.out.1 rfl (List.eq_nil_of_length_eq_zero hAl.out.symm)
        | cons x l => exact ⟨x, l, rfl⟩
      obtain ⟨b7, f7, sl7, rfl, hb7, hc7, hf7, ha7⟩ := args_at0 hA4.out hxl
      obtain ⟨o7, c7, rfl⟩ := ha7.shape
      have hco := hidi (constant_any (NewP P W0 w3) x (.agg #[.int .i64 x.op, .string x.name, .int .i64 x.val, .int .i64 x.bound, .slice o7 x.args.length c7]) W4 ⟨_, rfl, hf7, ha7⟩)
      have hAl0 : 0 < A.length := by rw [hxl]; simp
      have hfm := hidi (fits_mk (A := A) hx.out hop.out)
      have hcn : Hid (canonF f = if constF x = true then x else .mk 8 f.name f.val f.bound A) := by
        unfold Hid
        rw [hN.out, hxl]
        rfl
      have hcx := hidi hc7
      have hb7l := (hPin.out _ hb7).1
      obtain ⟨x0, x1, x2, x3, x4⟩ := hc7
      rw [← hW4.out] at y0 y1 y2 y3 y4 x0 x1 x2 x3 x4
      clear m0 m1 m2 m3 m4 i0 i1 i2 i3 i4 hxl
      go_wp2_with fail
      rw [hW4.out]
      refine hco.out.mono ?_
      rintro e w5 ⟨rfl, hb5⟩
      have hz5 := hb5.size
      have hre5 := hidi (hres4'.out.below hb5)
      have hbox5 : Hid (w5.heap[w.heap.size]? = some (.cells #[.int .i64 8, .string f.name, .int .i64 f.val, .int .i64 f.bound, .slice (some ⟨b7, f7, none⟩) A.length c3] 24 (0, 0))) := hidi ((hb5.block _ (by omega)).trans hbox4.out)
      have hB5 : Below w.heap.size w w5 := hB4.trans (hb5.mono (by omega))
      have z0 := cell_of_row w5 w.heap.size 0 _ _ _ hbox5.out
      have z1 := cell_of_row w5 w.heap.size 1 _ _ _ hbox5.out
      have z2 := cell_of_row w5 w.heap.size 2 _ _ _ hbox5.out
      have z3 := cell_of_row w5 w.heap.size 3 _ _ _ hbox5.out
      have z4 := cell_of_row w5 w.heap.size 4 _ _ _ hbox5.out
      obtain ⟨-, -, -, -, -, -, m0, m1, m2, m3, m4⟩ := hre5.out.cells
      obtain ⟨j1, j2, j3, j4, j5, ⟨i0, i1, i2, i3, i4⟩, -⟩ := hre5.out.cells
      have hA5 := hidi (hA4.out.kept hb5 (fun b hb => (hPin.out b hb).1))
      have ha8 := ha7.kept hb5 (fun b hb => (hPin.out b hb).1)
      clear x0 x1 x2 x3 x4 y0 y1 y2 y3 y4
      obtain ⟨x0, x1, x2, x3, x4⟩ := hcx.out.below hb5 hb7l
      have hcb : constF x = constB x := rfl
      rw [hcb] at hcn
      cases hb : constB x
      · have hC : Hid (canonF f = .mk 8 f.name f.val f.bound A) := by unfold Hid; rw [hcn.out, hb]; rfl
        have hfin := hidi (fin_set (P := P) (w := w) (R := w.heap.size + 1) hA5.out (fun b hb => by
          obtain ⟨g1, g2, g3, g4⟩ := hPin.out b hb
          refine ⟨g3, ?_⟩
          rcases g4 with g4 | g4
          · exact .inl g4
          · exact .inr ⟨g4.1, by omega⟩))
        go_wp2_with fail
        (try simp only [Exit.inBlock, Exit.then])
        refine bodyPost_ret (results_cell_row rfl _ _ (w.heap.size + 1) 24 _ (0, 0) _ rfl (hre5.out.set _ _ _ _ _) Tryz.underlying24 rfl fmSize) rfl ?_
        rw [hC.out]
        exact ⟨_, rfl, ⟨_, rfl, hfm.out, hfin.out _ _ _ _ _⟩, set5_below hB5 (Nat.le_succ _) _ _ _ _ _⟩
      · have hC : Hid (canonF f = x) := by unfold Hid; rw [hcn.out, hb]; rfl
        have hfin := hidi (fin_set (P := P) (w := w) (R := w.heap.size + 1) ha8 (fun b hb => by
          obtain ⟨g1, g2, g3, g4⟩ := hPin.out b hb
          refine ⟨g3, ?_⟩
          rcases g4 with g4 | g4
          · exact .inl g4
          · exact .inr ⟨g4.1, by omega⟩))
        go_wp2_with fail
        (try simp only [Exit.inBlock, Exit.then])
        refine bodyPost_ret (results_cell_row rfl _ _ (w.heap.size + 1) 24 _ (0, 0) _ rfl (hre5.out.set _ _ _ _ _) Tryz.underlying24 rfl fmSize) rfl ?_
        rw [hC.out]
        exact ⟨_, rfl, ⟨_, rfl, hf7, hfin.out _ _ _ _ _⟩, set5_below hB5 (Nat.le_succ _) _ _ _ _ _⟩
    by_cases h9 : fo = 9
    · subst h9
      obtain ⟨x, y, l, hxl⟩ : ∃ x y l, A = x :: y :: l := by
        have h2 : 2 ≤ A.length := by rw [hAl.out]; exact har.out.2 (by simp)
        match A, h2 with
        | x :: y :: l, _ => exact ⟨x, y, l, rfl⟩
      obtain ⟨b7, f7, sx, sl7, rfl, hb7, hcx, hfx, hax, hc7, hf7, ha7⟩ := args_at1 hA4.out hxl
      obtain ⟨o6, c6, rfl⟩ := hax.shape
      obtain ⟨o7, c7, rfl⟩ := ha7.shape
      have hco := hidi (constant_any (NewP P W0 w3) y (.agg #[.int .i64 y.op, .string y.name, .int .i64 y.val, .int .i64 y.bound, .slice o7 y.args.length c7]) W4 ⟨_, rfl, hf7, ha7⟩)
      have hAl0 : 1 < A.length := by rw [hxl]; simp
      have hfm := hidi (fits_mk (A := A) hx.out hop.out)
      have hcn : Hid (canonF f = if constF y = true ∨ x.op = 2 then y else .mk 9 f.name f.val f.bound A) := by
        unfold Hid
        rw [hN.out, hxl]
        rfl
      have hcy := hidi hc7
      have hcx' := hidi hcx
      have hb7l := (hPin.out _ hb7).1
      obtain ⟨x0, x1, x2, x3, x4⟩ := hc7
      rw [← hW4.out] at y0 y1 y2 y3 y4 x0 x1 x2 x3 x4
      clear m0 m1 m2 m3 m4 i0 i1 i2 i3 i4 hxl hcx
      go_wp2_with fail
      rw [hW4.out]
      refine hco.out.mono ?_
      rintro e w5 ⟨rfl, hb5⟩
      have hz5 := hb5.size
      have hre5 := hidi (hres4'.out.below hb5)
      have hbox5 : Hid (w5.heap[w.heap.size]? = some (.cells #[.int .i64 9, .string f.name, .int .i64 f.val, .int .i64 f.bound, .slice (some ⟨b7, f7, none⟩) A.length c3] 24 (0, 0))) := hidi ((hb5.block _ (by omega)).trans hbox4.out)
      have hB5 : Below w.heap.size w w5 := hB4.trans (hb5.mono (by omega))
      have z0 := cell_of_row w5 w.heap.size 0 _ _ _ hbox5.out
      have z1 := cell_of_row w5 w.heap.size 1 _ _ _ hbox5.out
      have z2 := cell_of_row w5 w.heap.size 2 _ _ _ hbox5.out
      have z3 := cell_of_row w5 w.heap.size 3 _ _ _ hbox5.out
      have z4 := cell_of_row w5 w.heap.size 4 _ _ _ hbox5.out
      obtain ⟨-, -, -, -, -, -, m0, m1, m2, m3, m4⟩ := hre5.out.cells
      obtain ⟨j1, j2, j3, j4, j5, ⟨i0, i1, i2, i3, i4⟩, -⟩ := hre5.out.cells
      have hA5 := hidi (hA4.out.kept hb5 (fun b hb => (hPin.out b hb).1))
      have ha8 := ha7.kept hb5 (fun b hb => (hPin.out b hb).1)
      clear x0 x1 x2 x3 x4 y0 y1 y2 y3 y4
      obtain ⟨x0, x1, x2, x3, x4⟩ := hcy.out.below hb5 hb7l
      obtain ⟨q0, q1, q2, q3, q4⟩ := hcx'.out.below hb5 hb7l
      have hcb : constF y = constB y := rfl
      rw [hcb] at hcn
      cases hb : constB y
      · by_cases hx2 : x.op = 2
        · have hC : Hid (canonF f = y) := by unfold Hid; rw [hcn.out, if_pos (.inr hx2)]
          have hx3 : (x.op == 2) = true := by simpa using hx2
          clear hx2
          have hfin := hidi (fin_set (P := P) (w := w) (R := w.heap.size + 1) ha8 (fun b hb => by
            obtain ⟨g1, g2, g3, g4⟩ := hPin.out b hb
            refine ⟨g3, ?_⟩
            rcases g4 with g4 | g4
            · exact .inl g4
            · exact .inr ⟨g4.1, by omega⟩))
          go_wp2_with fail
          (try simp only [Exit.inBlock, Exit.then])
          refine bodyPost_ret (results_cell_row rfl _ _ (w.heap.size + 1) 24 _ (0, 0) _ rfl (hre5.out.set _ _ _ _ _) Tryz.underlying24 rfl fmSize) rfl ?_
          rw [hC.out]
          exact ⟨_, rfl, ⟨_, rfl, hf7, hfin.out _ _ _ _ _⟩, set5_below hB5 (Nat.le_succ _) _ _ _ _ _⟩
        · have hC : Hid (canonF f = .mk 9 f.name f.val f.bound A) := by
            unfold Hid
            rw [hcn.out, if_neg]
            rintro (h | h)
            · rw [hb] at h; cases h
            · exact hx2 h
          have hx3 : (x.op == 2) = false := by simpa using hx2
          clear hx2
          have hfin := hidi (fin_set (P := P) (w := w) (R := w.heap.size + 1) hA5.out (fun b hb => by
            obtain ⟨g1, g2, g3, g4⟩ := hPin.out b hb
            refine ⟨g3, ?_⟩
            rcases g4 with g4 | g4
            · exact .inl g4
            · exact .inr ⟨g4.1, by omega⟩))
          go_wp2_with fail
          (try simp only [Exit.inBlock, Exit.then])
          refine bodyPost_ret (results_cell_row rfl _ _ (w.heap.size + 1) 24 _ (0, 0) _ rfl (hre5.out.set _ _ _ _ _) Tryz.underlying24 rfl fmSize) rfl ?_
          rw [hC.out]
          exact ⟨_, rfl, ⟨_, rfl, hfm.out, hfin.out _ _ _ _ _⟩, set5_below hB5 (Nat.le_succ _) _ _ _ _ _⟩
      · have hC : Hid (canonF f = y) := by unfold Hid; rw [hcn.out, if_pos (.inl hb)]
        have hfin := hidi (fin_set (P := P) (w := w) (R := w.heap.size + 1) ha8 (fun b hb => by
          obtain ⟨g1, g2, g3, g4⟩ := hPin.out b hb
          refine ⟨g3, ?_⟩
          rcases g4 with g4 | g4
          · exact .inl g4
          · exact .inr ⟨g4.1, by omega⟩))
        go_wp2_with fail
        (try simp only [Exit.inBlock, Exit.then])
        refine bodyPost_ret (results_cell_row rfl _ _ (w.heap.size + 1) 24 _ (0, 0) _ rfl (hre5.out.set _ _ _ _ _) Tryz.underlying24 rfl fmSize) rfl ?_
        rw [hC.out]
        exact ⟨_, rfl, ⟨_, rfl, hf7, hfin.out _ _ _ _ _⟩, set5_below hB5 (Nat.le_succ _) _ _ _ _ _⟩
    by_cases h10 : fo = 10
    · subst h10
      obtain ⟨x, y, l, hxl⟩ : ∃ x y l, A = x :: y :: l := by
        have h2 : 2 ≤ A.length := by rw [hAl.out]; exact har.out.2 (by simp)
        match A, h2 with
        | x :: y :: l, _ => exact ⟨x, y, l, rfl⟩
      obtain ⟨b7, f7, sx, sl7, rfl, hb7, hcx, hfx, hax, hc7, hf7, ha7⟩ := args_at1 hA4.out hxl
      obtain ⟨o6, c6, rfl⟩ := hax.shape
      obtain ⟨o7, c7, rfl⟩ := ha7.shape
      have hco := hidi (constant_any (NewP P W0 w3) y (.agg #[.int .i64 y.op, .string y.name, .int .i64 y.val, .int .i64 y.bound, .slice o7 y.args.length c7]) W4 ⟨_, rfl, hf7, ha7⟩)
      have hAl0 : 1 < A.length := by rw [hxl]; simp
      have hfm := hidi (fits_mk (A := A) hx.out hop.out)
      have hcn : Hid (canonF f = if constF y = true ∨ x.op = 1 then y else .mk 10 f.name f.val f.bound A) := by
        unfold Hid
        rw [hN.out, hxl]
        rfl
      have hcy := hidi hc7
      have hcx' := hidi hcx
      have hb7l := (hPin.out _ hb7).1
      obtain ⟨x0, x1, x2, x3, x4⟩ := hc7
      rw [← hW4.out] at y0 y1 y2 y3 y4 x0 x1 x2 x3 x4
      clear m0 m1 m2 m3 m4 i0 i1 i2 i3 i4 hxl hcx
      go_wp2_with fail
      rw [hW4.out]
      refine hco.out.mono ?_
      rintro e w5 ⟨rfl, hb5⟩
      have hz5 := hb5.size
      have hre5 := hidi (hres4'.out.below hb5)
      have hbox5 : Hid (w5.heap[w.heap.size]? = some (.cells #[.int .i64 10, .string f.name, .int .i64 f.val, .int .i64 f.bound, .slice (some ⟨b7, f7, none⟩) A.length c3] 24 (0, 0))) := hidi ((hb5.block _ (by omega)).trans hbox4.out)
      have hB5 : Below w.heap.size w w5 := hB4.trans (hb5.mono (by omega))
      have z0 := cell_of_row w5 w.heap.size 0 _ _ _ hbox5.out
      have z1 := cell_of_row w5 w.heap.size 1 _ _ _ hbox5.out
      have z2 := cell_of_row w5 w.heap.size 2 _ _ _ hbox5.out
      have z3 := cell_of_row w5 w.heap.size 3 _ _ _ hbox5.out
      have z4 := cell_of_row w5 w.heap.size 4 _ _ _ hbox5.out
      obtain ⟨-, -, -, -, -, -, m0, m1, m2, m3, m4⟩ := hre5.out.cells
      obtain ⟨j1, j2, j3, j4, j5, ⟨i0, i1, i2, i3, i4⟩, -⟩ := hre5.out.cells
      have hA5 := hidi (hA4.out.kept hb5 (fun b hb => (hPin.out b hb).1))
      have ha8 := ha7.kept hb5 (fun b hb => (hPin.out b hb).1)
      clear x0 x1 x2 x3 x4 y0 y1 y2 y3 y4
      obtain ⟨x0, x1, x2, x3, x4⟩ := hcy.out.below hb5 hb7l
      obtain ⟨q0, q1, q2, q3, q4⟩ := hcx'.out.below hb5 hb7l
      have hcb : constF y = constB y := rfl
      rw [hcb] at hcn
      cases hb : constB y
      · by_cases hx2 : x.op = 1
        · have hC : Hid (canonF f = y) := by unfold Hid; rw [hcn.out, if_pos (.inr hx2)]
          have hx3 : (x.op == 1) = true := by simpa using hx2
          clear hx2
          have hfin := hidi (fin_set (P := P) (w := w) (R := w.heap.size + 1) ha8 (fun b hb => by
            obtain ⟨g1, g2, g3, g4⟩ := hPin.out b hb
            refine ⟨g3, ?_⟩
            rcases g4 with g4 | g4
            · exact .inl g4
            · exact .inr ⟨g4.1, by omega⟩))
          go_wp2_with fail
          (try simp only [Exit.inBlock, Exit.then])
          refine bodyPost_ret (results_cell_row rfl _ _ (w.heap.size + 1) 24 _ (0, 0) _ rfl (hre5.out.set _ _ _ _ _) Tryz.underlying24 rfl fmSize) rfl ?_
          rw [hC.out]
          exact ⟨_, rfl, ⟨_, rfl, hf7, hfin.out _ _ _ _ _⟩, set5_below hB5 (Nat.le_succ _) _ _ _ _ _⟩
        · have hC : Hid (canonF f = .mk 10 f.name f.val f.bound A) := by
            unfold Hid
            rw [hcn.out, if_neg]
            rintro (h | h)
            · rw [hb] at h; cases h
            · exact hx2 h
          have hx3 : (x.op == 1) = false := by simpa using hx2
          clear hx2
          have hfin := hidi (fin_set (P := P) (w := w) (R := w.heap.size + 1) hA5.out (fun b hb => by
            obtain ⟨g1, g2, g3, g4⟩ := hPin.out b hb
            refine ⟨g3, ?_⟩
            rcases g4 with g4 | g4
            · exact .inl g4
            · exact .inr ⟨g4.1, by omega⟩))
          go_wp2_with fail
          (try simp only [Exit.inBlock, Exit.then])
          refine bodyPost_ret (results_cell_row rfl _ _ (w.heap.size + 1) 24 _ (0, 0) _ rfl (hre5.out.set _ _ _ _ _) Tryz.underlying24 rfl fmSize) rfl ?_
          rw [hC.out]
          exact ⟨_, rfl, ⟨_, rfl, hfm.out, hfin.out _ _ _ _ _⟩, set5_below hB5 (Nat.le_succ _) _ _ _ _ _⟩
      · have hC : Hid (canonF f = y) := by unfold Hid; rw [hcn.out, if_pos (.inl hb)]
        have hfin := hidi (fin_set (P := P) (w := w) (R := w.heap.size + 1) ha8 (fun b hb => by
          obtain ⟨g1, g2, g3, g4⟩ := hPin.out b hb
          refine ⟨g3, ?_⟩
          rcases g4 with g4 | g4
          · exact .inl g4
          · exact .inr ⟨g4.1, by omega⟩))
        go_wp2_with fail
        (try simp only [Exit.inBlock, Exit.then])
        refine bodyPost_ret (results_cell_row rfl _ _ (w.heap.size + 1) 24 _ (0, 0) _ rfl (hre5.out.set _ _ _ _ _) Tryz.underlying24 rfl fmSize) rfl ?_
        rw [hC.out]
        exact ⟨_, rfl, ⟨_, rfl, hf7, hfin.out _ _ _ _ _⟩, set5_below hB5 (Nat.le_succ _) _ _ _ _ _⟩
    have e5 : (fo == 5) = false := by simpa using h5
    have e6 : (fo == 6) = false := by simpa using h6
    have e8 : (fo == 8) = false := by simpa using h8
    have e9 : (fo == 9) = false := by simpa using h9
    have e10 : (fo == 10) = false := by simpa using h10
    have hC : Hid (canonF f = .mk fo f.name f.val f.bound A) := by unfold Hid; rw [hN.out, canonN_else h5 h6 h8 h9 h10]
    have hfm := hidi (fits_mk (A := A) hx.out hop.out)
    clear h5 h6 h8 h9 h10
    have hfin := hidi (fin_set (P := P) (w := w) (R := w.heap.size + 1) hA4.out (fun b hb => by
      obtain ⟨g1, g2, g3, g4⟩ := hPin.out b hb
      refine ⟨g3, ?_⟩
      rcases g4 with g4 | g4
      · exact .inl g4
      · exact .inr ⟨g4.1, by omega⟩))
    rw [← hW4.out] at y0 y1 y2 y3 y4 m0 m1 m2 m3 m4 i0 i1 i2 i3 i4
    go_wp2_with fail
    simp only [hW4.out]
    (try simp only [Exit.inBlock, Exit.then])
    refine bodyPost_ret (results_cell_row rfl _ _ (w.heap.size + 1) 24 _ (0, 0) _ rfl (hres4'.out.set _ _ _ _ _) Tryz.underlying24 rfl fmSize) rfl ?_
    rw [hC.out]
    exact ⟨_, rfl, ⟨_, rfl, hfm.out, hfin.out _ _ _ _ _⟩, set5_below hB4 (Nat.le_succ _) _ _ _ _ _⟩

end Go.Proofs.YtbnnjbfbifihaaaGreatDoor

/-
  The contracts of package formula's Canon, combine, And and Or.
-/
namespace Go.Proofs.YtbnnjbfbifihaaaGreatDoor
open Go.RowKit
open Go.Sort hiding Below

def canonTop (f : Fm) : Fm := if looseB f = true then canonF f else zeroF
def combineF (op : Int) (l : List Fm) : Fm := if l.all looseB = true then (if looseB (joinF op (l.map canonF)) = true then joinF op (l.map canonF) else zeroF) else zeroF
theorem looseB_nodes {f : Fm} (h : looseB f = true) : nodesB f = true := by
  unfold looseB at h
  simp only [Bool.and_eq_true] at h
  exact h.1.1.2

set_option maxRecDepth 100000 in
set_option maxHeartbeats 4000000 in
theorem canontop_any (P : Nat → Prop) (f : Fm) (v : Value) (w : World) (hE : Env w) (hv : FAtP P w v f) (hP : ∀ b, P b → b < w.heap.size) (hn : f.nodes ≤ 900000) :
    Calls Tryz.prog 35 #[v] w fun e w' => ∃ r, e = .returned r ∧ FAtP (NewP P w w') w' r (canonTop f) ∧ Below w.heap.size w w' := by
  obtain ⟨o, c, rfl, hfit, hA⟩ := hv.open
  obtain ⟨W0, hW0, hB0, -, -, -⟩ := fm2_open w (.int .i64 f.op) (.string f.name) (.int .i64 f.val) (.int .i64 f.bound) (.slice o f.args.length c) (.int .i64 0) (.string ⟨#[]⟩) (.int .i64 0) (.int .i64 0) (.slice none 0 0)
  obtain ⟨hbox, hz0⟩ := fm2_box hW0
  have hres := hidi (fm2_res hW0)
  have hboxh := hidi hbox
  obtain ⟨lb, hlb⟩ : ∃ lb, Hid (looseB f = lb) := ⟨_, hidi rfl⟩
  have hlo := hidi (loose_any f w.heap.size _ W0 ((hv.kept hB0 hP).mono hP) hB0.size (hE.below hB0) (by omega))
  have x0 := cell_of_row W0 w.heap.size 0 _ _ _ hbox
  have x1 := cell_of_row W0 w.heap.size 1 _ _ _ hbox
  have x2 := cell_of_row W0 w.heap.size 2 _ _ _ hbox
  have x3 := cell_of_row W0 w.heap.size 3 _ _ _ hbox
  have x4 := cell_of_row W0 w.heap.size 4 _ _ _ hbox
  rw [← hW0.out] at x0 x1 x2 x3 x4
  rw [hlb.out] at hlo
  clear hbox
  go_enter Tryz.func35, Tryz.ntmps35
  go_wp2_with fail
  rw [hW0.out]
  refine hlo.out.mono ?_
  rintro e w1 ⟨rfl, hb1⟩
  have hz1 := hb1.size
  have hre1 := hidi (hres.out.below hb1)
  have hbox1 := hidi ((hb1.block w.heap.size (by omega)).trans hboxh.out)
  have hB1 : Below w.heap.size w w1 := hB0.trans (hb1.mono (by omega))
  clear x0 x1 x2 x3 x4
  cases lb
  · have hC : Hid (canonTop f = zeroF) := by unfold Hid canonTop; rw [hlb.out]; simp
    obtain ⟨-, -, -, -, -, -, m0, m1, m2, m3, m4⟩ := hre1.out.cells
    obtain ⟨j1, j2, j3, j4, j5, ⟨i0, i1, i2, i3, i4⟩, -⟩ := hre1.out.cells
    go_wp2_with fail
    (try simp only [Exit.inBlock, Exit.then])
    refine bodyPost_ret (results_cell_row rfl _ _ (w.heap.size + 1) 24 _ (0, 0) _ rfl (hre1.out.set _ _ _ _ _) Tryz.underlying24 rfl fmSize) rfl ?_
    rw [hC.out]
    exact ⟨_, rfl, ⟨_, rfl, fits_op (by decide), .nil _ _⟩, set5_below hB1 (Nat.le_succ _) _ _ _ _ _⟩
  · have hC : Hid (canonTop f = canonF f) := by unfold Hid canonTop; rw [hlb.out]; rfl
    have hcan := hidi (canon_any f P _ w1 (hv.kept hB1 hP) (fun b hb => by have := hP b hb; omega) (looseB_nodes hlb.out) hn)
    have x0 := cell_of_row w1 w.heap.size 0 _ _ _ hbox1.out
    have x1 := cell_of_row w1 w.heap.size 1 _ _ _ hbox1.out
    have x2 := cell_of_row w1 w.heap.size 2 _ _ _ hbox1.out
    have x3 := cell_of_row w1 w.heap.size 3 _ _ _ hbox1.out
    have x4 := cell_of_row w1 w.heap.size 4 _ _ _ hbox1.out
    go_wp2_with fail
    refine hcan.out.mono ?_
    rintro e w2 ⟨r, rfl, hr, hb2⟩
    obtain ⟨J, hJ⟩ : ∃ J, Hid (canonF f = J) := ⟨_, hidi rfl⟩
    rw [hJ.out] at hr hC
    obtain ⟨o5, c5, rfl, hf5, ha5⟩ := hr.open
    have hz2 := hb2.size
    have hre2 := hidi (hre1.out.below hb2)
    have hB2 : Below w.heap.size w w2 := hB1.trans (hb2.mono (by omega))
    obtain ⟨-, -, -, -, -, -, m0, m1, m2, m3, m4⟩ := hre2.out.cells
    obtain ⟨j1, j2, j3, j4, j5, ⟨i0, i1, i2, i3, i4⟩, -⟩ := hre2.out.cells
    have hfin := hidi (fin_set (P := P) (w := w) (R := w.heap.size + 1) ha5 (fun b hb => by
      rcases hb with hb | ⟨h1, h2⟩
      · have := hP b hb; exact ⟨by omega, .inl hb⟩
      · exact ⟨by omega, .inr ⟨by omega, h2⟩⟩))
    go_wp2_with fail
    (try simp only [Exit.inBlock, Exit.then])
    refine bodyPost_ret (results_cell_row rfl _ _ (w.heap.size + 1) 24 _ (0, 0) _ rfl (hre2.out.set _ _ _ _ _) Tryz.underlying24 rfl fmSize) rfl ?_
    rw [hC.out]
    exact ⟨_, rfl, ⟨_, rfl, hf5, hfin.out _ _ _ _ _⟩, set5_below hB2 (Nat.le_succ _) _ _ _ _ _⟩

/-- the result's cells alone -/
theorem res_open (w : World) : ∃ W0, Hid (w.alloc (.cells #[.int .i64 0, .string ⟨#[]⟩, .int .i64 0, .int .i64 0, .slice none 0 0] 24) = W0) ∧ Below w.heap.size w W0 ∧ W0.heap.size = w.heap.size + 1 ∧ Hid (Res5 W0 w.heap.size) :=
  ⟨_, hidi rfl, below_box _ _, by simp, ⟨_, _, _, _, _, heap_alloc_new w _⟩⟩

set_option maxRecDepth 100000 in
set_option maxHeartbeats 4000000 in
theorem combine_any (P : Nat → Prop) (op : Int) (l : List Fm) (v : Value) (w : World) (hE : Env w) (hv : FArgsP P w v l) (hP : ∀ b, P b → b < w.heap.size) (hop : op = 5 ∨ op = 6) (hn : Fm.nodesL l ≤ 900000) :
    Calls Tryz.prog 72 #[.int .i64 op, v] w fun e w' => ∃ r, e = .returned r ∧ FAtP (NewP P w w') w' r (combineF op l) ∧ Below w.heap.size w w' := by
  obtain ⟨o, c, rfl⟩ := hv.shape
  obtain ⟨W0, hW0, hB0, hz0, hres⟩ := res_open w
  have hll := len_nodesL l
  go_enter Tryz.func72, Tryz.ntmps72
  go_wp2_with fail
  rw [hW0.out]
  go_loopw [10] (fun a wr => ∃ k : Nat, k ≤ l.length ∧ a = .int .i64 (k : Int) ∧ Hid (∀ (j : Nat) (h : j < l.length), j < k → looseB l[j] = true) ∧ Below W0.heap.size W0 wr) (fun a _ => l.length - (intOf a).toNat)
  case atStart => exact ⟨0, Nat.zero_le _, rfl, hidi fun j _ h => absurd h (by omega), Below.refl _ _⟩
  case round =>
    obtain ⟨k, hk, rfl, hall, hB⟩ := hrel
    have hzr := hB.size
    have hBw : Below w.heap.size w wr := hB0.trans (hB.mono (by omega))
    have hEr := hE.below hBw
    by_cases hkl : k < l.length
    · obtain ⟨b, off, rfl, hb, hat⟩ := hv.at (by omega)
      obtain ⟨sl, hc5, hF⟩ := hat k hkl
      have hbl := hP b hb
      obtain ⟨e0, e1, e2, e3, e4⟩ := hc5.below hBw hbl
      obtain ⟨sl', esl, hfx, hax⟩ := hF
      obtain rfl : sl = sl' := by simpa [fval] using esl
      obtain ⟨lb, hlb⟩ : ∃ lb, Hid (looseB l[k] = lb) := ⟨_, hidi rfl⟩
      have hnx := hidi (Fm.nodes_get hkl)
      have hno : Hid (lb = false → combineF op l = zeroF) := hidi fun h => by
        unfold combineF
        rw [if_neg]
        intro h2
        have := (List.all_eq_true.1 h2) _ (List.getElem_mem hkl)
        rw [hlb.out, h] at this
        cases this
      have hnext : Hid (lb = true → ∀ (j : Nat) (h : j < l.length), j < k + 1 → looseB l[j] = true) := hidi fun h j hj hjk => by
        rcases Nat.lt_or_ge j k with h' | h'
        · exact hall.out j hj h'
        · obtain rfl : j = k := by omega
          rw [hlb.out, h]
      generalize l[k] = x at *
      obtain ⟨ox, cx, rfl⟩ := hax.shape
      obtain ⟨X1, hX1⟩ : ∃ X1, Hid (wr.alloc (.cells #[.int .i64 x.op, .string x.name, .int .i64 x.val, .int .i64 x.bound, .slice ox x.args.length cx] 24) = X1) := ⟨_, hidi rfl⟩
      have hB1 : Below wr.heap.size wr X1 := by rw [← hX1.out]; exact below_box _ _
      have hz1 : X1.heap.size = wr.heap.size + 1 := by rw [← hX1.out]; simp
      have hbx1 : Cells5 X1 wr.heap.size 0 (.int .i64 x.op) (.string x.name) (.int .i64 x.val) (.int .i64 x.bound) (.slice ox x.args.length cx) := by rw [← hX1.out]; exact box5 _ _ _ _ _ _ _
      obtain ⟨x0, x1, x2, x3, x4⟩ := hbx1
      rw [Nat.zero_add] at x1 x2 x3 x4
      have hcall := hidi (loose_any x X1.heap.size (.agg #[.int .i64 x.op, .string x.name, .int .i64 x.val, .int .i64 x.bound, .slice ox x.args.length cx]) X1 ⟨_, rfl, hfx, ((hax.kept hBw hP).kept hB1 (fun b hb => by have := hP b hb; omega)).mono fun b hb => by have := hP b hb; omega⟩ (Nat.le_refl _) (hEr.below hB1) (by have := hnx.out; omega))
      rw [hlb.out] at hcall
      rw [← hX1.out] at x0 x1 x2 x3 x4
      go_wp2_with fail
      rw [hX1.out]
      refine hcall.out.mono ?_
      rintro e w2 ⟨rfl, hb2⟩
      have hz2 := hb2.size
      have hB02 : Below W0.heap.size W0 w2 := (hB.trans (hB1.mono (by omega))).trans (hb2.mono (by omega))
      cases lb
      · have hC := hidi (hno.out rfl)
        have hre2 := hidi (Res5.below hres.out hB02)
        obtain ⟨-, -, -, -, -, -, m0, m1, m2, m3, m4⟩ := hre2.out.cells
        obtain ⟨j1, j2, j3, j4, j5, ⟨i0, i1, i2, i3, i4⟩, -⟩ := hre2.out.cells
        have hB2 : Below w.heap.size w w2 := hB0.trans (hB02.mono (by omega))
        go_wp2_with fail
        (try simp only [Exit.inBlock, Exit.then])
        refine bodyPost_ret (results_cell_row rfl _ _ (w.heap.size) 24 _ (0, 0) _ rfl (hre2.out.set _ _ _ _ _) Tryz.underlying24 rfl fmSize) rfl ?_
        rw [hC.out]
        exact ⟨_, rfl, ⟨_, rfl, fits_op (by decide), .nil _ _⟩, set5_below hB2 (Nat.le_refl _) _ _ _ _ _⟩
      · have hN := hidi (hnext.out rfl)
        go_wp2_with fail
        go_roundw
        case rel => exact ⟨k + 1, by omega, by go_num, hN, hB02⟩
        case measure => simp only [intOf]; omega
    · obtain rfl : k = l.length := by omega
      have hla : Hid (∀ x ∈ l, looseB x = true) := hidi fun x hx => by
        obtain ⟨j, hj, rfl⟩ := List.getElem_of_mem hx
        exact hall.out j hj hj
      have hcs := hidi (canons_any l (fun x hx P v w h1 h2 => canon_any x P v w h1 h2 (looseB_nodes (hla.out x hx)) (by
        obtain ⟨j, hj, rfl⟩ := List.getElem_of_mem hx
        have := Fm.nodes_get hj
        omega)) P (.slice o l.length c) wr (hv.kept hBw hP) (fun b hb => by have := hP b hb; omega) (by omega))
      have hja := hidi (join_asks (op := op) (l := l) (fun x hx => looseB_nodes (hla.out x hx)) (by omega))
      have hCo : Hid (combineF op l = if looseB (joinF op (l.map canonF)) = true then joinF op (l.map canonF) else zeroF) := by
        unfold Hid combineF
        rw [if_pos (List.all_eq_true.2 hla.out)]
      have hnj : Hid ((joinF op (l.map canonF)).nodes ≤ 999999) := by
        have h1 := nodes_joinF op (l.map canonF)
        have h2 := nodesL_canonF (l := l) (fun x hx => looseB_nodes (hla.out x hx))
        unfold Hid
        omega
      clear hll
      generalize l.map canonF = A at *
      go_wp2_with fail
      refine hcs.out.mono ?_
      rintro e w3 ⟨r3, rfl, hA3, hb3⟩
      have hz3 := hb3.size
      have hj := hidi (join_any (NewP P wr w3) op A r3 w3 hA3 (fun b hb => by
        rcases hb with hb | ⟨h1, h2⟩
        · have := hP b hb; omega
        · omega) hop hja.out.1 hja.out.2)
      go_wp2_with fail
      refine hj.out.mono ?_
      rintro e w4 ⟨r4, rfl, hr4, hb4⟩
      have hz4 := hb4.size
      obtain ⟨J, hJ⟩ : ∃ J, Hid (joinF op A = J) := ⟨_, hidi rfl⟩
      rw [hJ.out] at hr4 hCo hnj
      obtain ⟨o5, c5, rfl, hf5, ha5⟩ := hr4.open
      obtain ⟨X5, hX5⟩ : ∃ X5, Hid (w4.alloc (.cells #[.int .i64 J.op, .string J.name, .int .i64 J.val, .int .i64 J.bound, .slice o5 J.args.length c5] 24) = X5) := ⟨_, hidi rfl⟩
      have hB5 : Below w4.heap.size w4 X5 := by rw [← hX5.out]; exact below_box _ _
      have hz5 : X5.heap.size = w4.heap.size + 1 := by rw [← hX5.out]; simp
      have hrow5 : Hid (X5.heap[w4.heap.size]? = some (.cells #[.int .i64 J.op, .string J.name, .int .i64 J.val, .int .i64 J.bound, .slice o5 J.args.length c5] 24 (0, 0))) := by unfold Hid; rw [← hX5.out]; exact heap_alloc_new w4 _
      have hPall : Hid (∀ b, NewP (NewP P wr w3) w3 w4 b → b ≠ w.heap.size ∧ b < w4.heap.size ∧ (P b ∨ (w.heap.size ≤ b ∧ b < w4.heap.size))) := hidi fun b hb => by
        rcases hb with (hb | ⟨h1, h2⟩) | ⟨h1, h2⟩
        · have := hP b hb; exact ⟨by omega, by omega, .inl hb⟩
        · exact ⟨by omega, by omega, .inr ⟨by omega, by omega⟩⟩
        · exact ⟨by omega, by omega, .inr ⟨by omega, by omega⟩⟩
      have hB04 : Below W0.heap.size W0 w4 := (hB.trans (hb3.mono (by omega))).trans (hb4.mono (by omega))
      have hB05 : Below W0.heap.size W0 X5 := hB04.trans (hB5.mono (by omega))
      have hE5 := hE.below (hB0.trans (hB05.mono (by omega)))
      have ha55 := hidi (ha5.kept hB5 (fun b hb => (hPall.out b hb).2.1))
      obtain ⟨lb, hlb⟩ : ∃ lb, Hid (looseB J = lb) := ⟨_, hidi rfl⟩
      have hl5 := hidi (loose_any J X5.heap.size (.agg #[.int .i64 J.op, .string J.name, .int .i64 J.val, .int .i64 J.bound, .slice o5 J.args.length c5]) X5 ⟨_, rfl, hf5, ha55.out.mono fun b hb => by have := (hPall.out b hb).2.1; omega⟩ (Nat.le_refl _) hE5 hnj.out)
      rw [hlb.out] at hl5 hCo
      have x0 := cell_of_row X5 w4.heap.size 0 _ _ _ hrow5.out
      have x1 := cell_of_row X5 w4.heap.size 1 _ _ _ hrow5.out
      have x2 := cell_of_row X5 w4.heap.size 2 _ _ _ hrow5.out
      have x3 := cell_of_row X5 w4.heap.size 3 _ _ _ hrow5.out
      have x4 := cell_of_row X5 w4.heap.size 4 _ _ _ hrow5.out
      rw [← hX5.out] at x0 x1 x2 x3 x4
      go_wp2_with fail
      rw [hX5.out]
      refine hl5.out.mono ?_
      rintro e w6 ⟨rfl, hb6⟩
      have hz6 := hb6.size
      clear x0 x1 x2 x3 x4
      have hre6 := hidi (Res5.below hres.out (hB05.trans (hb6.mono (by omega))))
      have hB6 : Below w.heap.size w w6 := hB0.trans ((hB05.trans (hb6.mono (by omega))).mono (by omega))
      obtain ⟨-, -, -, -, -, -, m0, m1, m2, m3, m4⟩ := hre6.out.cells
      obtain ⟨j1, j2, j3, j4, j5, ⟨i0, i1, i2, i3, i4⟩, -⟩ := hre6.out.cells
      cases lb
      · go_wp2_with fail
        (try simp only [Exit.inBlock, Exit.then])
        refine bodyPost_ret (results_cell_row rfl _ _ (w.heap.size) 24 _ (0, 0) _ rfl (hre6.out.set _ _ _ _ _) Tryz.underlying24 rfl fmSize) rfl ?_
        rw [hCo.out]
        exact ⟨_, rfl, ⟨_, rfl, fits_op (by decide), .nil _ _⟩, set5_below hB6 (Nat.le_refl _) _ _ _ _ _⟩
      · have hrow6 := (hb6.block w4.heap.size (by omega)).trans hrow5.out
        have x0 := cell_of_row w6 w4.heap.size 0 _ _ _ hrow6
        have x1 := cell_of_row w6 w4.heap.size 1 _ _ _ hrow6
        have x2 := cell_of_row w6 w4.heap.size 2 _ _ _ hrow6
        have x3 := cell_of_row w6 w4.heap.size 3 _ _ _ hrow6
        have x4 := cell_of_row w6 w4.heap.size 4 _ _ _ hrow6
        clear hrow6
        have hfin := hidi (fin_set (P := P) (w := w) (R := w.heap.size) (ha55.out.kept hb6 (fun b hb => by have := (hPall.out b hb).2.1; omega)) (fun b hb => by
          obtain ⟨h1, h2, h3⟩ := hPall.out b hb
          refine ⟨h1, ?_⟩
          rcases h3 with h3 | h3
          · exact .inl h3
          · exact .inr ⟨h3.1, by omega⟩))
        go_wp2_with fail
        (try simp only [Exit.inBlock, Exit.then])
        refine bodyPost_ret (results_cell_row rfl _ _ (w.heap.size) 24 _ (0, 0) _ rfl (hre6.out.set _ _ _ _ _) Tryz.underlying24 rfl fmSize) rfl ?_
        rw [hCo.out]
        exact ⟨_, rfl, ⟨_, rfl, hf5, hfin.out _ _ _ _ _⟩, set5_below hB6 (Nat.le_refl _) _ _ _ _ _⟩

set_option maxRecDepth 100000 in
set_option maxHeartbeats 2000000 in
theorem and_any (P : Nat → Prop) (l : List Fm) (v : Value) (w : World) (hE : Env w) (hv : FArgsP P w v l) (hP : ∀ b, P b → b < w.heap.size) (hn : Fm.nodesL l ≤ 900000) :
    Calls Tryz.prog 37 #[v] w fun e w' => ∃ r, e = .returned r ∧ FAtP (NewP P w w') w' r (combineF 5 l) ∧ Below w.heap.size w w' := by
  obtain ⟨o, c, rfl⟩ := hv.shape
  obtain ⟨W0, hW0, hB0, hz0, hres⟩ := res_open w
  have hcm := hidi (combine_any P 5 l (.slice o l.length c) W0 (hE.below hB0) (hv.kept hB0 hP) (fun b hb => by have := hP b hb; omega) (by decide) hn)
  go_enter Tryz.func37, Tryz.ntmps37
  go_wp2_with fail
  rw [hW0.out]
  refine hcm.out.mono ?_
  rintro e w2 ⟨r, rfl, hr, hb2⟩
  obtain ⟨J, hJ⟩ : ∃ J, Hid (combineF 5 l = J) := ⟨_, hidi rfl⟩
  rw [hJ.out] at hr
  obtain ⟨o5, c5, rfl, hf5, ha5⟩ := hr.open
  have hz2 := hb2.size
  have hre2 := hidi (hres.out.below hb2)
  have hB2 : Below w.heap.size w w2 := hB0.trans (hb2.mono (by omega))
  obtain ⟨-, -, -, -, -, -, m0, m1, m2, m3, m4⟩ := hre2.out.cells
  obtain ⟨j1, j2, j3, j4, j5, ⟨i0, i1, i2, i3, i4⟩, -⟩ := hre2.out.cells
  have hfin := hidi (fin_set (P := P) (w := w) (R := w.heap.size) ha5 (fun b hb => by
    rcases hb with hb | ⟨h1, h2⟩
    · have := hP b hb; exact ⟨by omega, .inl hb⟩
    · exact ⟨by omega, .inr ⟨by omega, h2⟩⟩))
  go_wp2_with fail
  (try simp only [Exit.inBlock, Exit.then])
  refine bodyPost_ret (results_cell_row rfl _ _ (w.heap.size) 24 _ (0, 0) _ rfl (hre2.out.set _ _ _ _ _) Tryz.underlying24 rfl fmSize) rfl ?_
  rw [hJ.out]
  exact ⟨_, rfl, ⟨_, rfl, hf5, hfin.out _ _ _ _ _⟩, set5_below hB2 (Nat.le_refl _) _ _ _ _ _⟩

set_option maxRecDepth 100000 in
set_option maxHeartbeats 2000000 in
theorem or_any (P : Nat → Prop) (l : List Fm) (v : Value) (w : World) (hE : Env w) (hv : FArgsP P w v l) (hP : ∀ b, P b → b < w.heap.size) (hn : Fm.nodesL l ≤ 900000) :
    Calls Tryz.prog 39 #[v] w fun e w' => ∃ r, e = .returned r ∧ FAtP (NewP P w w') w' r (combineF 6 l) ∧ Below w.heap.size w w' := by
  obtain ⟨o, c, rfl⟩ := hv.shape
  obtain ⟨W0, hW0, hB0, hz0, hres⟩ := res_open w
  have hcm := hidi (combine_any P 6 l (.slice o l.length c) W0 (hE.below hB0) (hv.kept hB0 hP) (fun b hb => by have := hP b hb; omega) (by decide) hn)
  go_enter Tryz.func39, Tryz.ntmps39
  go_wp2_with fail
  rw [hW0.out]
  refine hcm.out.mono ?_
  rintro e w2 ⟨r, rfl, hr, hb2⟩
  obtain ⟨J, hJ⟩ : ∃ J, Hid (combineF 6 l = J) := ⟨_, hidi rfl⟩
  rw [hJ.out] at hr
  obtain ⟨o5, c5, rfl, hf5, ha5⟩ := hr.open
  have hz2 := hb2.size
  have hre2 := hidi (hres.out.below hb2)
  have hB2 : Below w.heap.size w w2 := hB0.trans (hb2.mono (by omega))
  obtain ⟨-, -, -, -, -, -, m0, m1, m2, m3, m4⟩ := hre2.out.cells
  obtain ⟨j1, j2, j3, j4, j5, ⟨i0, i1, i2, i3, i4⟩, -⟩ := hre2.out.cells
  have hfin := hidi (fin_set (P := P) (w := w) (R := w.heap.size) ha5 (fun b hb => by
    rcases hb with hb | ⟨h1, h2⟩
    · have := hP b hb; exact ⟨by omega, .inl hb⟩
    · exact ⟨by omega, .inr ⟨by omega, h2⟩⟩))
  go_wp2_with fail
  (try simp only [Exit.inBlock, Exit.then])
  refine bodyPost_ret (results_cell_row rfl _ _ (w.heap.size) 24 _ (0, 0) _ rfl (hre2.out.set _ _ _ _ _) Tryz.underlying24 rfl fmSize) rfl ?_
  rw [hJ.out]
  exact ⟨_, rfl, ⟨_, rfl, hf5, hfin.out _ _ _ _ _⟩, set5_below hB2 (Nat.le_refl _) _ _ _ _ _⟩

end Go.Proofs.YtbnnjbfbifihaaaGreatDoor
