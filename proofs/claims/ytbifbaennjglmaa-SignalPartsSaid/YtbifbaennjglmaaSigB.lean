/-
  Contracts of the signal package's iterator over the weights of selected signals.
-/
import Derived.Test.YtbifbaennjglmaaSigA
import Derived.RangeFuncBox
import Derived.RangeFuncNested
import Derived.RangeFuncCalls
import Derived.RangeFuncLeaves
import Derived.Shelf.Abstract
import Derived.OwnWalkIn
import Derived.TacticsInMore
import Derived.LoopNIn
import Derived.LoopIn
namespace Go.Proofs.Ytbifbaennjglmaa
open Go.RowKit Go.Shelf

attribute [local go_sem] Oper.semAt_some

theorem cell_al {w : World} {p : Addr} {v : Value} (o : Obj) (h : w.cell? p = some v) : (w.alloc o).cell? p = some v := by
  obtain ⟨u, hu, _⟩ := cells_of_cell h
  exact (((Below.refl w.heap.size w).alloc (Nat.le_refl _) o).cell (Array.getElem?_eq_some_iff.1 hu).1).trans h

/-- every block of cells lies as it lay, but for block x -/
structure KeepC (x : Nat) (w w' : World) : Prop where
  os : w'.os = w.os
  tape : w'.tape = w.tape
  output : w'.output = w.output
  size : w.heap.size ≤ w'.heap.size
  same : ∀ (k : Nat) (o : Obj), k ≠ x → w.heap[k]? = some o → o.isCells = true → w'.heap[k]? = some o

theorem KeepC.refl (x : Nat) (w : World) : KeepC x w w := ⟨rfl, rfl, rfl, Nat.le_refl _, fun _ _ _ h _ => h⟩
theorem KeepC.trans {x : Nat} {a b c : World} (h : KeepC x a b) (k : KeepC x b c) : KeepC x a c :=
  ⟨k.os.trans h.os, k.tape.trans h.tape, k.output.trans h.output, Nat.le_trans h.size k.size, fun i o hx hi ho => k.same i o hx (h.same i o hx hi ho) ho⟩
theorem KeepC.of_below {x : Nat} {w w' : World} (h : Below w.heap.size w w') : KeepC x w w' :=
  ⟨h.os, h.tape, h.output, h.size, fun k _ _ hk _ => (h.block k (Array.getElem?_eq_some_iff.1 hk).1).trans hk⟩
theorem KeepC.cell {x : Nat} {w w' : World} (h : KeepC x w w') {p : Addr} {v : Value} (hx : p.block ≠ x) (hp : w.cell? p = some v) : w'.cell? p = some v := by
  obtain ⟨o, ho, hc⟩ := cells_of_cell hp
  exact (World.cell?_of_block ((h.same _ _ hx ho hc).trans ho.symm)).trans hp
theorem KeepC.setCell {x : Nat} {w : World} (p : Addr) (hp : p.block = x) (v : Value) : KeepC x w (w.setCell p v) :=
  ⟨rfl, rfl, rfl, by simp [World.setCell], fun k _ hx hk _ => (Below.heap_setCell _ _ _ _ (by rintro rfl; exact hx hp)).trans hk⟩
theorem KeepC.drew {x : Nat} {w w' : World} (h : KeepC x w w') : KeepC x w w'.drew := ⟨h.os, h.tape, h.output, h.size, h.same⟩
theorem keepC_t {x : Nat} {A B C : World} (h : KeepC x A B) (k : KeepC x B C) : KeepC x A C := h.trans k
theorem keepC_b {x : Nat} {w : World} (W : World) (l : Nat) (o o' : Obj) (_ : w.heap.size ≤ l) (h : W.heap[l]? = some o) (hc : o.isCells = false) (_ : o.isWalk = false) : KeepC x W (W.putObj l o') := by
  have g := grownBy_putObj' W l o'
  refine ⟨g.os, g.tape, g.output, g.size, fun k u _ hk hu => ?_⟩
  by_cases e : k = l
  · subst e; rw [h] at hk; cases hk; rw [hc] at hu; cases hu
  · exact (g.block k (Array.getElem?_eq_some_iff.1 hk).1 (by simpa using e)).trans hk
theorem SigAt.keepC {x : Nat} {w w' : World} {b o : Nat} {s : Sig} (h : SigAt w b o s) (hB : KeepC x w w') (hx : b ≠ x) : SigAt w' b o s :=
  ⟨hB.cell (p := ⟨b, o, none⟩) hx h.1, hB.cell (p := ⟨b, o + 1, none⟩) hx h.2.1, hB.cell (p := ⟨b, o + 2, none⟩) hx h.2.2.1, h.2.2.2⟩

/-- a function value selects signals: all of them, or those of one kind; the captured cell lies in a block with Q -/
def SelIs (Q : Nat → Prop) (w : World) (v : Value) (p : Sig → Bool) : Prop :=
  (v = .func (.func 51) #[] #[] ∧ p = fun _ => true) ∨
    ∃ c b, v = .func (.func 52) #[] #[.pointer (some ⟨c, 0, none⟩)] ∧ Q c ∧ w.cell? ⟨c, 0, none⟩ = some (.bool b) ∧ p = fun s => s.input == b

theorem SelIs.keepC {Q : Nat → Prop} {x : Nat} {w w' : World} {v : Value} {p : Sig → Bool} (h : SelIs Q w v p) (hB : KeepC x w w') (hQ : ∀ c, Q c → c ≠ x) : SelIs Q w' v p := by
  rcases h with h | ⟨c, b, hv, hq, hc, hp⟩
  · exact .inl h
  · exact .inr ⟨c, b, hv, hq, hB.cell (p := ⟨c, 0, none⟩) (hQ c hq) hc, hp⟩
theorem SelIs.mono {Q Q' : Nat → Prop} {w : World} {v : Value} {p : Sig → Bool} (h : SelIs Q w v p) (hQ : ∀ c, Q c → Q' c) : SelIs Q' w v p := by
  rcases h with h | ⟨c, b, hv, hq, hc, hp⟩
  · exact .inl h
  · exact .inr ⟨c, b, hv, hQ c hq, hc, hp⟩
theorem SelIs.below {B : Nat} {Q : Nat → Prop} {w w' : World} {v : Value} {p : Sig → Bool} (h : SelIs Q w v p) (hB : Below B w w') (hQ : ∀ c, Q c → c < B) : SelIs Q w' v p := by
  rcases h with h | ⟨c, b, hv, hq, hc, hp⟩
  · exact .inl h
  · exact .inr ⟨c, b, hv, hq, (hB.cell (p := ⟨c, 0, none⟩) (hQ c hq)).trans hc, hp⟩

theorem grownBy_of_below {w w' : World} (h : Below w.heap.size w w') : w.grownBy w' none := ⟨h.os, h.tape, h.output, h.size, fun k hk _ => h.block k hk⟩

set_option maxHeartbeats 400000 in
theorem whole1_any (nm : ByteArray) (i : Bool) (z : Int) (w : World) :
    Calls Try.prog 51 #[.agg #[.string nm, .bool i, .int .i64 z]] w fun e w' => e = .returned (.bool true) ∧ Below w.heap.size w w' := by
  go_enter Try.func51, Try.ntmps51
  go_wp2
  go_ret
  exact ⟨rfl, (Below.refl _ _).alloc (Nat.le_refl _) _⟩

set_option maxHeartbeats 400000 in
theorem half1_any (nm : ByteArray) (i : Bool) (z : Int) (k : Nat) (b : Bool) (w : World) (hk : k < w.heap.size) (hc : w.cell? ⟨k, 0, none⟩ = some (.bool b)) :
    Calls Try.prog 52 #[.agg #[.string nm, .bool i, .int .i64 z], .pointer (some ⟨k, 0, none⟩)] w fun e w' => e = .returned (.bool (i == b)) ∧ Below w.heap.size w w' := by
  go_enter Try.func52, Try.ntmps52
  go_wp2
  go_ret
  exact ⟨rfl, (Below.refl _ _).alloc (Nat.le_refl _) _⟩

set_option maxHeartbeats 400000 in
theorem whole_any (w : World) :
    Calls Try.prog 38 #[] w fun e w' => e = .returned (.func (.func 51) #[] #[]) ∧ w = w' := by
  go_enter Try.func38, Try.ntmps38
  go_wp2
  go_ret
  exact ⟨rfl, rfl⟩

set_option maxHeartbeats 400000 in
theorem half_any (b : Bool) (w : World) :
    Calls Try.prog 43 #[.bool b] w fun e w' => e = .returned (.func (.func 52) #[] #[.pointer (some ⟨w.heap.size, 0, none⟩)]) ∧ w.alloc (.cells #[.bool b] 4) = w' := by
  go_enter Try.func43, Try.ntmps43
  go_wp2
  go_ret
  exact ⟨rfl, rfl⟩

set_option maxHeartbeats 400000 in
theorem weights_any (a : Option Addr) (len cap : Nat) (f : Fn) (x y : Array Value) (w : World) :
    Calls Try.prog 50 #[.slice a len cap, .func f x y] w fun e w' => e = .returned (.func (.func 53) #[] #[.pointer (some ⟨w.heap.size, 0, none⟩), .pointer (some ⟨w.heap.size + 1, 0, none⟩)]) ∧
      (w.alloc (.cells #[.slice a len cap] 22)).alloc (.cells #[.func f x y] 45) = w' := by
  go_enter Try.func50, Try.ntmps50
  go_wp2
  go_ret
  exact ⟨rfl, rfl⟩

/-- an element that the iterator hands over -/
abbrev WElem (p : Sig → Bool) (l : List Sig) := { x : Nat × Int // x ∈ wl p 0 1 l }
abbrev wenc {p : Sig → Bool} {l : List Sig} (x : WElem p l) : Array Value := #[.int .i64 (x.1.1 : Int), .int .i64 x.1.2]

set_option maxRecDepth 100000 in
set_option maxHeartbeats 2000000 in
theorem weights1_in (n : Nat) (hn : 2 ≤ n) (lp Bl Bs x b off cap : Nat) (sv : Value) (p : Sig → Bool) (l : List Sig) (hbx : b ≠ x) (hsx : Bs ≠ x) (hcap : l.length ≤ cap) (hm : cap ≤ 9223372036854775807)
    (J Jx : List (WElem p l) → World → Prop) (W : World) (hxW : x < W.heap.size) (hJ : AbidesFrom W.heap.size J)
    (hY : ∀ pre x' W1, J pre W1 → pre.length < l.length → YieldAt Fence.wide (n - 1) Try.prog lp (wenc x') W1 fun e W' =>
      (e = .returned (.bool true) ∧ J (pre ++ [x']) W' ∧ KeepC x W1 W') ∨ (e = .returned (.bool false) ∧ Jx (pre ++ [x']) W'))
    (hBl : W.cell? ⟨Bl, 0, none⟩ = some (.slice (some ⟨b, off, none⟩) l.length cap)) (hBs : W.cell? ⟨Bs, 0, none⟩ = some sv) (hsel : SelIs (fun c => c ≠ x) W sv p)
    (hc : ∀ k (h : k < l.length), SigAt W b (off + k * 3) l[k]) (h0 : J [] W) :
    CallsIn Fence.wide n Try.prog 53 #[.func (.yield lp) #[] #[], .pointer (some ⟨Bl, 0, none⟩), .pointer (some ⟨Bs, 0, none⟩)] W fun e W' => (∃ v, e = .returned v) ∧
      ((∃ ys : List (WElem p l), ys.map (·.1) = wl p 0 1 l ∧ J ys W') ∨ (∃ pre, True ∧ Jx pre W')) := by
  refine callsIn_of_wp Try.func53 rfl trivial ?_ rfl
  simp only [Try.ntmps53, List.size_toArray, List.length_cons, List.length_nil, Nat.reduceAdd, Nat.reduceSub, Array.replicate_succ, Array.replicate_zero, List.push_toArray, List.append_toArray, List.nil_append, List.cons_append]
  gi_wp2
  gi_loopw [4, 9] (fun wt i wr => ∃ (k : Nat) (z : Int) (pre : List (WElem p l)), k ≤ l.length ∧ pre.length ≤ k ∧ i = .int .i64 k ∧ wt = .int .i64 z ∧ J pre wr ∧ KeepC x W wr ∧ Hid (wl p 0 1 l = pre.map (·.1) ++ wl p k z (l.drop k)))
    (fun _ i _ => l.length - (intOf i).toNat)
  case atStart => exact ⟨0, 1, [], Nat.zero_le _, Nat.le_refl _, rfl, rfl, h0, KeepC.refl _ _, rfl⟩
  case round =>
    obtain ⟨k, z, pre, hk, hpre, rfl, rfl, hJs, hB, hF⟩ := hrel
    by_cases hlt : k < l.length
    · obtain ⟨c0, c1, c2, c3, c4, c5⟩ := (hc k hlt).keepC hB hbx
      have hbs : wr.cell? ⟨Bs, 0, none⟩ = some sv := hB.cell (p := ⟨Bs, 0, none⟩) hsx hBs
      have hs' : Bs < wr.heap.size := by obtain ⟨o, ho, _⟩ := cells_of_cell hbs; exact (Array.getElem?_eq_some_iff.1 ho).1
      have hsel' := hsel.keepC hB (fun c h => h)
      have hS : Hid (wl p k z (l.drop k) = if p l[k] then (k, z) :: wl p (k + 1) (wrap64 (z * l[k].size)) (l.drop (k + 1)) else wl p (k + 1) z (l.drop (k + 1))) := by
        unfold Hid; rw [List.drop_eq_getElem_cons hlt]; rfl
      rcases hsel' with ⟨rfl, rfl⟩ | ⟨c, bb, rfl, hcx, hcc, rfl⟩
      · have hx : (k, z) ∈ wl (fun _ => true) 0 1 l := by have h := hF.out; rw [hS.out] at h; rw [h]; simp
        gi_wp2_with fail
        refine ⟨trivial, fun _ => by omega, ?_⟩
        refine (callsIn_wide.2 (whole1_any _ _ _ _)).mono ?_
        rintro e w' ⟨rfl, hb1⟩
        obtain ⟨fn, tmps, assign, body, hy, hR⟩ := hY pre ⟨(k, z), hx⟩ w' (hJ _ _ _ none (hJ _ _ _ none hJs (World.grownBy_alloc wr _ none) (by simp)) (grownBy_of_below hb1) (by simp)) (by omega)
        have hb1' := hb1
        have d2 : w'.cell? ⟨wr.heap.size, 2, none⟩ = some (.int .i64 l[k].size) := (hb1.cell (p := ⟨wr.heap.size, 2, none⟩) (by simp)).trans (by go_simp)
        gi_wp2
        refine ⟨fun _ => by omega, hR.mono ?_⟩
        rintro e W3 (⟨rfl, hJ3, hk3⟩ | ⟨rfl, hJx3⟩)
        · have d3 := hk3.cell (p := ⟨wr.heap.size, 2, none⟩) (by have := hB.size; show wr.heap.size ≠ x; omega) d2
          gi_wp2
          go_roundw
          case rel => exact ⟨k + 1, _, pre ++ [⟨(k, z), hx⟩], by omega, by simp; omega, by go_num, rfl, hJ3, ((hB.trans (KeepC.of_below ((Below.refl _ _).alloc (Nat.le_refl _) _))).trans (KeepC.of_below hb1')).trans hk3, hF.out.trans (by rw [hS.out]; simp)⟩
          case measure => simp [intOf]; omega
        · gi_wp2
          refine bodyPost_ret (results_none rfl _ _ _) rfl ?_
          exact ⟨⟨_, rfl⟩, .inr ⟨_, trivial, hJx3⟩⟩
      · have hcs : c < wr.heap.size := by obtain ⟨o, ho, _⟩ := cells_of_cell hcc; exact (Array.getElem?_eq_some_iff.1 ho).1
        cases hp : (l[k].input == bb)
        · gi_wp2_with fail
          refine ⟨trivial, fun _ => by omega, ?_⟩
          refine (callsIn_wide.2 (half1_any _ _ _ _ bb _ (by simp; omega) (cell_al _ hcc))).mono ?_
          rw [hp]
          rintro e w' ⟨rfl, hb1⟩
          have hb1' := hb1
          gi_wp2
          go_roundw
          case rel => exact ⟨k + 1, z, pre, by omega, by omega, by go_num, rfl, hJ _ _ _ none (hJ _ _ _ none hJs (World.grownBy_alloc wr _ none) (by simp)) (grownBy_of_below hb1') (by simp), (hB.trans (KeepC.of_below ((Below.refl _ _).alloc (Nat.le_refl _) _))).trans (KeepC.of_below hb1'), hF.out.trans (by rw [hS.out, if_neg (by simp [hp])])⟩
          case measure => simp [intOf]; omega
        · have hx : (k, z) ∈ wl (fun s => s.input == bb) 0 1 l := by have h := hF.out; rw [hS.out, if_pos hp] at h; rw [h]; simp
          gi_wp2_with fail
          refine ⟨trivial, fun _ => by omega, ?_⟩
          refine (callsIn_wide.2 (half1_any _ _ _ _ bb _ (by simp; omega) (cell_al _ hcc))).mono ?_
          rw [hp]
          rintro e w' ⟨rfl, hb1⟩
          obtain ⟨fn, tmps, assign, body, hy, hR⟩ := hY pre ⟨(k, z), hx⟩ w' (hJ _ _ _ none (hJ _ _ _ none hJs (World.grownBy_alloc wr _ none) (by simp)) (grownBy_of_below hb1) (by simp)) (by omega)
          have hb1' := hb1
          have d2 : w'.cell? ⟨wr.heap.size, 2, none⟩ = some (.int .i64 l[k].size) := (hb1.cell (p := ⟨wr.heap.size, 2, none⟩) (by simp)).trans (by go_simp)
          gi_wp2
          refine ⟨fun _ => by omega, hR.mono ?_⟩
          rintro e W3 (⟨rfl, hJ3, hk3⟩ | ⟨rfl, hJx3⟩)
          · have d3 := hk3.cell (p := ⟨wr.heap.size, 2, none⟩) (by have := hB.size; show wr.heap.size ≠ x; omega) d2
            gi_wp2
            go_roundw
            case rel => exact ⟨k + 1, _, pre ++ [⟨(k, z), hx⟩], by omega, by simp; omega, by go_num, rfl, hJ3, ((hB.trans (KeepC.of_below ((Below.refl _ _).alloc (Nat.le_refl _) _))).trans (KeepC.of_below hb1')).trans hk3, hF.out.trans (by rw [hS.out, if_pos hp]; simp)⟩
            case measure => simp [intOf]; omega
          · gi_wp2
            refine bodyPost_ret (results_none rfl _ _ _) rfl ?_
            exact ⟨⟨_, rfl⟩, .inr ⟨_, trivial, hJx3⟩⟩
    · gi_wp2
      go_end0
      exact ⟨⟨_, rfl⟩, .inl ⟨pre, by have h := hF.out; rw [List.drop_of_length_le (by omega)] at h; simpa [wl] using h.symm, hJs⟩⟩

end Go.Proofs.Ytbifbaennjglmaa
