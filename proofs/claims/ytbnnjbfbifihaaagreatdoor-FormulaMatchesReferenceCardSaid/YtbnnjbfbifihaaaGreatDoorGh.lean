/-
  Contracts that the formula laws stand on, part Gh.
-/
import Derived.Test.YtbnnjbfbifihaaaGreatDoorFcP
import Derived.Shelf.SlSortCmp.QuietGrown
import Derived.Test.YtbnnjbfbifihaaaGreatDoorFcQ
import Derived.Lib.SliceRun
import Derived.Shelf.SlSortFuncK.RowK2
import Derived.Test.YtbnnjbfbifihaaaGreatDoorGf
import Derived.Test.YtbnnjbfbifihaaaGreatDoorGg
import Derived.Test.YtbnnjbfbifihaaaGreatDoorFcR

/-
  A list of formulas in one block, and the contract of slices.SortFunc at it.
-/
namespace Go.Proofs.YtbnnjbfbifihaaaGreatDoor
open Go.RowKit
open Go.Sort hiding Below

/-- a list of formulas in the block R; what their arguments lie in are Q's blocks -/
structure RowF (Q : Nat → Prop) (W : World) (R : Nat) (es : List (Fm × Value)) : Prop where
  cell : ∀ k (h : k < es.length), Cells5 W R (k * 5) (.int .i64 es[k].1.op) (.string es[k].1.name) (.int .i64 es[k].1.val) (.int .i64 es[k].1.bound) es[k].2
  free : ∀ j, j < es.length * 5 → W.frozen? ⟨R, j, none⟩ = false
  good : ∀ e ∈ es, Fits e.1 ∧ FArgsP Q W e.2 e.1.args

theorem RowF.kept {Q : Nat → Prop} {W W' : World} {R : Nat} {es : List (Fm × Value)} (h : RowF Q W R es) (hB : Below W.heap.size W W') (hR : R < W.heap.size) (hQ : ∀ b, Q b → b < W.heap.size) : RowF Q W' R es :=
  ⟨fun k hk => (h.cell k hk).below hB hR, fun j hj => (hB.frozen (p := ⟨R, j, none⟩) hR).trans (h.free j hj), fun e he => ⟨(h.good e he).1, (h.good e he).2.kept hB hQ⟩⟩
theorem RowF.at {Q : Nat → Prop} {W : World} {R : Nat} {es : List (Fm × Value)} (h : RowF Q W R es) {k : Nat} (hk : k < es.length) : FAtP Q W (fval es[k].1 es[k].2) es[k].1 :=
  ⟨_, rfl, (h.good _ (List.getElem_mem hk)).1, (h.good _ (List.getElem_mem hk)).2⟩
theorem RowF.take {Q : Nat → Prop} {W : World} {R : Nat} {es : List (Fm × Value)} (h : RowF Q W R es) (n : Nat) : RowF Q W R (es.take n) := by
  refine ⟨fun k hk => ?_, fun j hj => h.free j ?_, fun e he => h.good e (List.mem_of_mem_take he)⟩
  · have hk' : k < es.length := by rw [List.length_take] at hk; omega
    rw [List.getElem_take]
    exact h.cell k hk'
  · rw [List.length_take] at hj; have := Nat.min_le_right n es.length; omega

/-- an element of a list in R, with what its arguments lie in -/
abbrev Elt (Q : Nat → Prop) (W : World) : Type := {e : Fm × Value // Fits e.1 ∧ FArgsP Q W e.2 e.1.args}
theorem zero_elt (Q : Nat → Prop) (W : World) : Fits zeroF ∧ FArgsP Q W (.slice none 0 0) zeroF.args :=
  ⟨⟨⟨by decide, by decide⟩, by decide, ⟨by decide, by decide⟩, ⟨by decide, by decide⟩⟩, .nil _ _⟩
instance (Q : Nat → Prop) (W : World) : Inhabited (Elt Q W) := ⟨⟨(zeroF, .slice none 0 0), zero_elt Q W⟩⟩
def encF {Q : Nat → Prop} {W : World} (x : Elt Q W) : List Value := [.int .i64 x.1.1.op, .string x.1.1.name, .int .i64 x.1.1.val, .int .i64 x.1.1.bound, x.1.2]
def cmpE {Q : Nat → Prop} {W : World} (x y : Elt Q W) : Int := cmpF x.1.1 y.1.1

theorem swo_cmpE (Q : Nat → Prop) (W : World) : SWO (ltOf (cmpE (Q := Q) (W := W))) where
  irrefl x := by simp [ltOf, cmpE, cmpF_self]
  trans x y z h1 h2 := by
    exact decide_eq_true (cmpF_lt_trans (of_decide_eq_true h1) (of_decide_eq_true h2))
  ntrans x y z h1 h2 := by
    have h1' : ¬ cmpF x.1.1 y.1.1 < 0 := of_decide_eq_false h1
    have h2' : ¬ cmpF y.1.1 z.1.1 < 0 := of_decide_eq_false h2
    refine decide_eq_false ?_
    show ¬ cmpF x.1.1 z.1.1 < 0
    have a1 := cmpF_anti x.1.1 y.1.1
    have a2 := cmpF_anti y.1.1 z.1.1
    have a3 := cmpF_anti x.1.1 z.1.1
    have := (good_fm z.1.1).trans y.1.1 x.1.1 (by omega) (by omega)
    omega

theorem sortWorldK_sv {α : Type} [Inhabited α] (enc : α → List Value) (k : Nat) (W : World) (R off n : Nat) (d : Array α) (os : Array Obj) : Sv W R (sortWorldK enc k W R off n d os) := by
  refine ⟨rfl, rfl, rfl, ?_, fun b hb hn => ?_⟩
  · simp [sortWorldK, grow, putRowK, putRow, mapBlock]
  · simp only [sortWorldK, grow, putRowK, putRow, mapBlock]
    rw [Array.getElem?_append_left (by simpa [Sort.ahead] using hb), Array.getElem?_modify, if_neg (fun e => hn e.symm)]
    rfl
theorem rowF_holds {Q : Nat → Prop} {W W' : World} {R : Nat} {d : Array (Elt Q W)} (hc : ∀ k (h : k < d.size), Cells5 W' R (k * 5) (.int .i64 d[k].1.1.op) (.string d[k].1.1.name) (.int .i64 d[k].1.1.val) (.int .i64 d[k].1.1.bound) d[k].1.2)
    (hf : ∀ j, j < d.size * 5 → W'.frozen? ⟨R, j, none⟩ = false) : HoldsK encF 5 W' R 0 d := by
  intro j hj
  rw [size_flatK] at hj
  obtain ⟨k, r, hr5, rfl⟩ : ∃ k r, r < 5 ∧ j = k * 5 + r := ⟨j / 5, j % 5, by omega, by omega⟩
  have hk : k < d.size := by omega
  rw [get_flatK _ _ _ _ hj, Nat.zero_add, show (k * 5 + r) / 5 = k by omega, show (k * 5 + r) % 5 = r by omega, getElem!_pos d k hk]
  obtain ⟨q1, q2, q3, q4, q5⟩ := hc k hk
  refine ⟨?_, hf _ hj⟩
  match r, hr5 with
  | 0, _ => exact q1
  | 1, _ => exact q2
  | 2, _ => exact q3
  | 3, _ => exact q4
  | 4, _ => exact q5
theorem rowF_of_holds {Q : Nat → Prop} {W W' : World} {R : Nat} {d : Array (Elt Q W)} (h : HoldsK encF 5 W' R 0 d) (k : Nat) (hk : k < d.size) :
    Cells5 W' R (k * 5) (.int .i64 d[k].1.1.op) (.string d[k].1.1.name) (.int .i64 d[k].1.1.val) (.int .i64 d[k].1.1.bound) d[k].1.2 := by
  have key : ∀ r, r < 5 → W'.cell? ⟨R, k * 5 + r, none⟩ = some (encF d[k])[r]! := by
    intro r hr
    have := (h (k * 5 + r) (by rw [size_flatK]; omega)).1
    rw [get_flatK _ _ _ _ (by omega), Nat.zero_add, show (k * 5 + r) / 5 = k by omega, show (k * 5 + r) % 5 = r by omega, getElem!_pos d k hk] at this
    exact this
  exact ⟨key 0 (by omega), key 1 (by omega), key 2 (by omega), key 3 (by omega), key 4 (by omega)⟩

theorem Tryz.fmAgg : ∀ w, (isAgg 24).run Tryz.prog w = .ok true w := Tryz.isAgg24
theorem Tryz.fmSz : ∀ w, (Go.sizeOf 24).run Tryz.prog w = .ok 5 w := Tryz.sizeOf24

/-- sorted, equals beside one another -/
def SortedF (l : List Fm) : Prop := l.Pairwise fun a b => cmpF a b ≤ 0

set_option maxHeartbeats 1000000 in
theorem sort_any (Q : Nat → Prop) (R cap : Nat) (es : List (Fm × Value)) (W : World) (hR : RowF Q W R es) (hlt : R < W.heap.size) (hQ : ∀ b, Q b → b ≠ R ∧ b < W.heap.size) (hsz : es.length ≤ 1000000) :
    Calls Tryz.prog 129 #[.slice (some ⟨R, 0, none⟩) es.length cap, .func (.func 19) #[] #[]] W fun e w' =>
      e = .returned (.tuple #[]) ∧ ∃ es' : List (Fm × Value), es'.Perm es ∧ SortedF (es'.map Prod.fst) ∧ RowF Q w' R es' ∧ Sv W R w' := by
  have eg : ∀ args w, (callFunc 19 args).run Tryz.prog w = .ok (.enter 19 args) w := enters_of Tryz.func19 (by kernel_rfl) rfl
  obtain ⟨ds, hds⟩ : ∃ ds : List (Elt Q W), ds.map Subtype.val = es := ⟨es.attach.map fun e => ⟨e.1, hR.good e.1 e.2⟩, by
    rw [List.map_map]
    exact (List.map_congr_left (fun _ _ => rfl)).trans (List.attach_map_subtype_val es)⟩
  have hlen : ds.toArray.size = es.length := by rw [← hds]; simp
  have hc : ∀ k (h : k < ds.toArray.size), ds.toArray[k].1 = es[k]'(by omega) := by
    intro k h
    have : (ds.map Subtype.val)[k]'(by simpa using h) = es[k]'(by omega) := by simp only [hds]
    rw [← this]; simp
  have hH : HoldsK encF 5 W R 0 ds.toArray := by
    refine rowF_holds (fun k hk => ?_) (fun j hj => hR.free j (by omega))
    rw [hc k hk]
    exact hR.cell k (by omega)
  have hcmp : CmpLays Tryz.prog 19 #[] (encF (Q := Q) (W := W)) 5 cmpE R 0 ds.toArray.size W := by
    intro m os dk hdk x y
    have hs := sortWorldK_sv (encF (Q := Q) (W := W)) 5 W R 0 m dk os
    generalize hX : sortWorldK (encF (Q := Q) (W := W)) 5 W R 0 m dk os = X at *
    have hat : ∀ z : Elt Q W, FAt X.heap.size X (.agg (encF z).toArray) z.1.1 := by
      intro z
      refine ⟨z.1.2, rfl, z.2.1, ?_⟩
      exact (z.2.2.same fun b hb => hs.block b (hQ b hb).2 (hQ b hb).1).mono fun b hb => Nat.lt_of_lt_of_le (hQ b hb).2 hs.size
    refine (compare_d x.1.1 y.1.1 X.heap.size _ _ X (hat x) (hat y) (Nat.le_refl _)).mono ?_
    rintro e w' ⟨rfl, hb⟩
    exact ⟨rfl, hb.grown⟩
  have hcon := AnyQ.slices_SortFunc Tryz.sortFm 5 Tryz.fmAgg Tryz.fmSz (encF (Q := Q) (W := W)) (fun _ => rfl) (fun x v hv => by
    simp only [encF, List.mem_cons, List.not_mem_nil, or_false] at hv
    rcases hv with rfl | rfl | rfl | rfl | rfl
    · rfl
    · rfl
    · rfl
    · rfl
    · exact x.2.2.oneCell) cmpE (swo_cmpE Q W) 19 #[] R 0 cap ds.toArray W eg hcmp hH hlt (by omega)
  rw [hlen] at hcon
  refine hcon.mono ?_
  rintro e w' ⟨rfl, d', n, os, hp, hso, rfl⟩
  have hsize : d'.size = ds.toArray.size := hp.1
  have hs := sortWorldK_sv (encF (Q := Q) (W := W)) 5 W R 0 n d' os
  have hH' := holdsK_sortWorldK (encF (Q := Q) (W := W)) 5 W R 0 n ds.toArray d' os hlt hH hsize
  refine ⟨rfl, d'.toList.map Subtype.val, ?_, ?_, ?_, hs⟩
  · have h2 := hp.2.2
    rw [← hlen, Array.extract_size] at h2
    have h3 : d'.extract 0 ds.toArray.size = d' := by rw [← hsize]; exact Array.extract_size
    rw [h3] at h2
    have := h2.map Subtype.val
    rw [← hds]
    simpa using this
  · unfold SortedF
    rw [List.map_map]
    rw [List.pairwise_map, List.pairwise_iff_getElem]
    intro i j hi hj hij
    have hi' : i < d'.size := by simpa using hi
    have hj' : j < d'.size := by simpa using hj
    have := hso i j (Nat.zero_le _) hij (by omega)
    rw [getElem!_pos d' i hi', getElem!_pos d' j hj'] at this
    have this' : ¬ cmpF d'[j].1.1 d'[i].1.1 < 0 := of_decide_eq_false this
    have ha := cmpF_anti d'[i].1.1 d'[j].1.1
    simp only [Function.comp, Array.getElem_toList]
    omega
  · refine ⟨fun k hk => ?_, fun j hj => ?_, fun e he => ?_⟩
    · have hk' : k < d'.size := by simpa using hk
      have := rowF_of_holds hH' k hk'
      simpa using this
    · have := (hH' j (by rw [size_flatK]; simpa using hj)).2
      rwa [Nat.zero_add] at this
    · obtain ⟨z, -, rfl⟩ := List.mem_map.1 he
      exact ⟨z.2.1, z.2.2.same fun b hb => hs.block b (hQ b hb).2 (hQ b hb).1⟩

end Go.Proofs.YtbnnjbfbifihaaaGreatDoor

/-
  The contracts of settle's comparison for equality and of slices.BinarySearchFunc at formulas.
-/
namespace Go.Proofs.YtbnnjbfbifihaaaGreatDoor
open Go.RowKit
open Go.Sort hiding Below

theorem grow_belD (W : World) (n : Nat) (os : Array Obj) : BelD W.heap.size W (grow (W.drewN n) os) := by
  refine ⟨⟨rfl, rfl, rfl, by simp [grow, World.drewN], fun k hk => ?_⟩, by simp [grow, World.drewN]⟩
  simp only [grow, World.drewN]
  rw [Array.getElem?_append_left hk]

theorem cmp_grown (x y : Fm) (u v : Value) (W : World) (hu : FAt W.heap.size W u x) (hv : FAt W.heap.size W v y) (n : Nat) (os : Array Obj) :
    Calls Tryz.prog 19 #[u, v] (grow (W.drewN n) os) fun e w'' => e = .returned (.int .i64 (cmpF x y)) ∧ ∃ p : GrownBy, w'' = grow (W.drewN p.n) p.os := by
  have hb := grow_belD W n os
  refine Calls.grown_of ((compare_d x y _ _ _ _ (hu.next hb.toBelow) (hv.next hb.toBelow) (Nat.le_refl _)).mono ?_)
  rintro e w' ⟨rfl, hb1⟩
  exact ⟨rfl, hb1.grown⟩

set_option maxRecDepth 100000 in
set_option maxHeartbeats 1000000 in
/-- two formulas are equal -/
theorem same_d (x y : Fm) (u v : Value) (k9 : Nat) (w : World) (hu : FAt w.heap.size w u x) (hv : FAt w.heap.size w v y) (hk : k9 < w.heap.size) (hc : w.cell? ⟨k9, 0, none⟩ = some (.func (.func 19) #[] #[])) :
    Calls Tryz.prog 128 #[u, v, .pointer (some ⟨k9, 0, none⟩)] w fun e w' => e = .returned (.bool (cmpF x y == 0)) ∧ BelD w.heap.size w w' := by
  obtain ⟨o, c, rfl, -, hAf⟩ := hu.open
  obtain ⟨o', c', rfl, -, hAg⟩ := hv.open
  obtain ⟨W0, hW0, hB0, hcf, hcg, hlt⟩ := fm2_open_d w (.int .i64 x.op) (.string x.name) (.int .i64 x.val) (.int .i64 x.bound) (.slice o x.args.length c) (.int .i64 y.op) (.string y.name) (.int .i64 y.val) (.int .i64 y.bound) (.slice o' y.args.length c')
  obtain ⟨d0, d1, d2, d3, d4⟩ := hcf.out
  obtain ⟨c0, c1, c2, c3, c4⟩ := hcg.out
  have hc0 := (hB0.toBelow.cell (p := ⟨k9, 0, none⟩) hk).trans hc
  rw [Nat.zero_add] at d1 d2 d3 d4 c1 c2 c3 c4
  obtain ⟨z, hz⟩ : ∃ z, Hid (cmpF x y = z) := ⟨_, rfl⟩
  rw [hz.out]
  have hcall := hidi (compare_d x y w.heap.size _ _ W0 (hu.kept hB0.toBelow (Nat.le_refl _)) (hv.kept hB0.toBelow (Nat.le_refl _)) hB0.size)
  go_enter Tryz.func128, Tryz.ntmps128
  go_wp2_with fail
  rw [hW0.out]
  go_wp2_with (go_at_call 19; refine hcall.out.mono ?_; rintro e w1 ⟨rfl, hb1⟩; rw [hz.out])
  go_ret
  exact ⟨ret_bool (by simp), hB0.trans (hb1.mono hB0.size)⟩

theorem same_grown (x y : Fm) (u v : Value) (k9 : Nat) (W : World) (hu : FAt W.heap.size W u x) (hv : FAt W.heap.size W v y) (hk : k9 < W.heap.size) (hc : W.cell? ⟨k9, 0, none⟩ = some (.func (.func 19) #[] #[])) (n : Nat) (os : Array Obj) :
    Calls Tryz.prog 128 #[u, v, .pointer (some ⟨k9, 0, none⟩)] (grow (W.drewN n) os) fun e w'' => e = .returned (.bool (cmpF x y == 0)) ∧ ∃ p : GrownBy, w'' = grow (W.drewN p.n) p.os := by
  have hb := grow_belD W n os
  refine Calls.grown_of ((same_d x y _ _ k9 _ (hu.next hb.toBelow) (hv.next hb.toBelow) (Nat.lt_of_lt_of_le hk hb.size) ((hb.toBelow.cell (p := ⟨k9, 0, none⟩) hk).trans hc)).mono ?_)
  rintro e w' ⟨rfl, hb1⟩
  exact ⟨rfl, hb1.grown⟩

theorem RowF.fat {Q : Nat → Prop} {W : World} {R : Nat} {es : List (Fm × Value)} (h : RowF Q W R es) (hQ : ∀ b, Q b → b < W.heap.size) {k : Nat} (hk : k < es.length) : FAt W.heap.size W (fval es[k].1 es[k].2) es[k].1 := (h.at hk).mono hQ

set_option maxRecDepth 100000 in
set_option maxHeartbeats 2000000 in
theorem search_any (Q : Nat → Prop) (R cap : Nat) (es : List (Fm × Value)) (w : World) (x : Fm) (u : Value) (hR : RowF Q w R es) (hlt : R < w.heap.size) (hQ : ∀ b, Q b → b ≠ R ∧ b < w.heap.size) (hn : es.length ≤ 1000000) (hs : Asc (es.map Prod.fst)) (hu : FAt w.heap.size w u x) :
    Calls Tryz.prog 132 #[.slice (some ⟨R, 0, none⟩) es.length cap, u, .func (.func 19) #[] #[]] w fun e w' =>
      (∃ n, e = .returned (.tuple #[.int .i64 n, .bool (memB x (es.map Prod.fst))])) ∧ BelD w.heap.size w w' := by
  have hmix : Tryz.prog.follows .mixedOrders = true := by kernel_rfl
  obtain ⟨o, c, rfl, -, hAf⟩ := hu.open
  obtain ⟨W0, hW0⟩ : ∃ W0, Hid (w.alloc (.cells #[.int .i64 x.op, .string x.name, .int .i64 x.val, .int .i64 x.bound, .slice o x.args.length c] 24) = W0) := ⟨_, rfl⟩
  have hB0 : BelD w.heap.size w W0 := by rw [← hW0.out]; exact belD_box _ _
  have hbx : Hid (Cells5 W0 w.heap.size 0 (.int .i64 x.op) (.string x.name) (.int .i64 x.val) (.int .i64 x.bound) (.slice o x.args.length c)) := by unfold Hid; rw [← hW0.out]; exact box5 _ _ _ _ _ _ _
  have hz0 : W0.heap.size = w.heap.size + 1 := by rw [← hW0.out]; simp
  have hRW := hR.kept hB0.toBelow hlt (fun b hb => (hQ b hb).2)
  have hu0 := hu.next hB0.toBelow
  go_enter Tryz.func132, Tryz.ntmps132
  go_wp2_with fail
  rw [hW0.out]
  go_loopw [9, 10] (fun a b wr => ∃ i j : Nat, i ≤ j ∧ j ≤ es.length ∧ a = .int .i64 i ∧ b = .int .i64 j ∧ Hid (∀ k (h : k < es.length), k < i → cmpF es[k].1 x < 0) ∧ Hid (∀ k (h : k < es.length), j ≤ k → 0 ≤ cmpF es[k].1 x) ∧ BelD W0.heap.size W0 wr) (fun a b _ => (intOf b).toNat - (intOf a).toNat)
  case atStart => exact ⟨0, es.length, Nat.zero_le _, Nat.le_refl _, rfl, rfl, hidi fun k _ h => absurd h (by omega), hidi fun k h h' => absurd h (by omega), BelD.refl _ _⟩
  case round =>
    obtain ⟨i, j, hij, hj, rfl, rfl, hlo, hhi, hB⟩ := hrel
    have hRr := hRW.kept hB.toBelow (by omega) (fun b hb => by have := (hQ b hb).2; omega)
    by_cases hlt2 : i < j
    · obtain ⟨h, hh⟩ : ∃ h, Hid ((i + j) / 2 = h) := ⟨_, rfl⟩
      have h1 : i ≤ h := by have := hh.out; omega
      have h2 : h < j := by have := hh.out; omega
      have h3 : h < es.length := by omega
      have hcast : ((i : Int) + (j : Int)) / 2 = (h : Int) := by have := hh.out; omega
      obtain ⟨y0, y1, y2, y3, y4⟩ := hRr.cell h h3
      obtain ⟨x0, x1, x2, x3, x4⟩ := hbx.out.below hB.toBelow (by omega)
      rw [Nat.zero_add] at x1 x2 x3 x4
      have hzr := hB.size
      have y0' := cell_grown (w := wr) (show R < wr.heap.size by omega) y0
      have y1' := cell_grown (w := wr) (show R < wr.heap.size by omega) y1
      have y2' := cell_grown (w := wr) (show R < wr.heap.size by omega) y2
      have y3' := cell_grown (w := wr) (show R < wr.heap.size by omega) y3
      have y4' := cell_grown (w := wr) (show R < wr.heap.size by omega) y4
      have x0' := cell_grown (w := wr) (show w.heap.size < wr.heap.size by omega) x0
      have x1' := cell_grown (w := wr) (show w.heap.size < wr.heap.size by omega) x1
      have x2' := cell_grown (w := wr) (show w.heap.size < wr.heap.size by omega) x2
      have x3' := cell_grown (w := wr) (show w.heap.size < wr.heap.size by omega) x3
      have x4' := cell_grown (w := wr) (show w.heap.size < wr.heap.size by omega) x4
      have hF := hRr.fat (fun b hb => by have := (hQ b hb).2; omega) h3
      have hcall := hidi (cmp_grown es[h].1 x _ _ wr hF ((hu0.kept hB.toBelow (Nat.le_refl _)).mono hB.size))
      have hzl : Hid (cmpF es[h].1 x < 0 → ∀ k (hk : k < es.length), k < h + 1 → cmpF es[k].1 x < 0) := by
        intro hl k hk hkh
        rcases Nat.lt_or_ge k h with hk1 | hk1
        · have := List.pairwise_iff_getElem.1 hs k h (by simpa using hk) (by simpa using h3) hk1
          simp only [List.getElem_map] at this
          exact cmpF_lt_trans this hl
        · obtain rfl : k = h := by omega
          exact hl
      have hzg : Hid (¬ cmpF es[h].1 x < 0 → ∀ k (hk : k < es.length), h ≤ k → 0 ≤ cmpF es[k].1 x) := by
        intro hl k hk hkh
        refine Int.not_lt.1 fun hc => ?_
        rcases Nat.lt_or_ge h k with hk1 | hk1
        · have := List.pairwise_iff_getElem.1 hs h k (by simpa using h3) (by simpa using hk) hk1
          simp only [List.getElem_map] at this
          exact hl (cmpF_lt_trans this hc)
        · obtain rfl : k = h := by omega
          exact hl hc
      clear hF y0 y1 y2 y3 y4 x0 x1 x2 x3 x4 hh
      generalize es[h] = eh at *
      obtain ⟨eh, es1⟩ := eh
      unfold fval at hcall
      dsimp only at *
      obtain ⟨z, hz⟩ : ∃ z, Hid (cmpF eh x = z) := ⟨_, rfl⟩
      rw [hz.out] at hcall hzl hzg
      by_cases hzz : z < 0
      · have hzl' := hidi (hzl.out hzz)
        clear hzl hzg
        go_wp2_with fail
        go_quiet_grown (exact hcall.out _ _)
        go_wp2
        refine ⟨⟨h + 1, j, by omega, hj, by go_num, rfl, hzl', hhi, hB.trans ((grow_belD _ _ _).mono hB.size)⟩, ?_⟩
        simp only [intOf]
        omega
      · have hzg' := hidi (hzg.out hzz)
        have hzz' : decide (z < 0) = false := by simpa using hzz
        clear hzl hzg
        go_wp2_with fail
        go_quiet_grown (exact hcall.out _ _)
        go_wp2
        refine ⟨⟨i, h, by omega, by omega, rfl, rfl, hlo, hzg', hB.trans ((grow_belD _ _ _).mono hB.size)⟩, ?_⟩
        simp only [intOf]
        omega
    · obtain rfl : i = j := by omega
      have hzr := hB.size
      obtain ⟨x0, x1, x2, x3, x4⟩ := hbx.out.below hB.toBelow (by omega)
      rw [Nat.zero_add] at x1 x2 x3 x4
      have x0' := cell_grown (w := wr) (show w.heap.size < wr.heap.size by omega) x0
      have x1' := cell_grown (w := wr) (show w.heap.size < wr.heap.size by omega) x1
      have x2' := cell_grown (w := wr) (show w.heap.size < wr.heap.size by omega) x2
      have x3' := cell_grown (w := wr) (show w.heap.size < wr.heap.size by omega) x3
      have x4' := cell_grown (w := wr) (show w.heap.size < wr.heap.size by omega) x4
      have hBw := hB0.trans (hB.mono hB0.size)
      have hmem : Hid (memB x (es.map Prod.fst) = true → ∃ (hi : i < es.length), cmpF es[i].1 x = 0) := by
        intro h
        obtain ⟨k, hk, e⟩ := List.getElem_of_mem (memB_iff.1 h)
        have hk' : k < es.length := by simpa using hk
        have e0 : cmpF es[k].1 x = 0 := cmpF_eq0.2 (by simpa using e)
        have h1 : i ≤ k := Nat.le_of_not_lt fun hc => by have := hlo.out k hk' hc; omega
        have h2 := hhi.out i (by omega) (Nat.le_refl _)
        rcases Nat.lt_or_ge i k with hik | hik
        · have h3 := List.pairwise_iff_getElem.1 hs i k (by simp; omega) hk hik
          simp only [List.getElem_map] at h3
          rw [cmpF_eq0.1 e0] at h3
          omega
        · obtain rfl : i = k := by omega
          exact ⟨hk', e0⟩
      clear x0 x1 x2 x3 x4
      by_cases hin : i < es.length
      · have hF := hRr.fat (fun b hb => by have := (hQ b hb).2; omega) hin
        obtain ⟨y0, y1, y2, y3, y4⟩ := hRr.cell i hin
        have y0' := cell_grown (w := wr) (show R < wr.heap.size by omega) y0
        have y1' := cell_grown (w := wr) (show R < wr.heap.size by omega) y1
        have y2' := cell_grown (w := wr) (show R < wr.heap.size by omega) y2
        have y3' := cell_grown (w := wr) (show R < wr.heap.size by omega) y3
        have y4' := cell_grown (w := wr) (show R < wr.heap.size by omega) y4
        have hcall := hidi (cmp_grown es[i].1 x _ _ wr hF ((hu0.kept hB.toBelow (Nat.le_refl _)).mono hB.size))
        have hM : Hid (memB x (es.map Prod.fst) = (cmpF es[i].1 x == 0)) := by
          cases hb : memB x (es.map Prod.fst)
          · refine Eq.symm ?_
            refine beq_eq_false_iff_ne.2 fun e => ?_
            have : memB x (es.map Prod.fst) = true := memB_iff.2 (by
              rw [← cmpF_eq0.1 e]
              exact List.mem_map.2 ⟨_, List.getElem_mem hin, rfl⟩)
            rw [hb] at this; cases this
          · obtain ⟨_, h⟩ := hmem.out hb
            rw [h]; rfl
        clear hF y0 y1 y2 y3 y4 hmem
        generalize es[i] = eh at *
        obtain ⟨eh, es1⟩ := eh
        unfold fval at hcall
        dsimp only at *
        obtain ⟨z, hz⟩ : ∃ z, Hid (cmpF eh x = z) := ⟨_, rfl⟩
        rw [hz.out] at hcall hM
        go_wp2_with fail
        go_quiet_grown (exact hcall.out _ _)
        go_wp2
        (try simp only [Exit.inBlock, Exit.then])
        refine bodyPost_ret (by simp [results, go_sem]; rfl) rfl ?_
        exact ⟨⟨_, by rw [hM.out]⟩, hBw.trans ((grow_belD _ _ _).mono hBw.size)⟩
      · have hM : Hid (memB x (es.map Prod.fst) = false) := by
          unfold Hid
          refine Bool.eq_false_iff.2 fun h => ?_
          obtain ⟨h, _⟩ := hmem.out h
          exact hin h
        clear hmem
        have hi2 : decide ((i : Int) < (es.length : Int)) = false := by simpa using hin
        have hi3 : decide (i < es.length) = false := by simpa using hin
        go_wp2_with fail
        go_quiet (fail)
        go_wp2
        (try simp only [Exit.inBlock, Exit.then])
        refine bodyPost_ret (by simp [results, go_sem]; rfl) rfl ?_
        exact ⟨⟨_, by rw [hM.out]⟩, hBw.trans (belD_drewN (BelD.refl _ _) _)⟩

end Go.Proofs.YtbnnjbfbifihaaaGreatDoor

/-
  The contract of slices.CompactFunc at formulas.
-/
namespace Go.Proofs.YtbnnjbfbifihaaaGreatDoor
open Go.RowKit
open Go.Sort hiding Below

/-- a formula stored at an address of the block R -/
def set5 (W : World) (R o : Nat) (u1 u2 u3 u4 u5 : Value) : World := ((((W.setCell ⟨R, o, none⟩ u1).setCell ⟨R, o + 1, none⟩ u2).setCell ⟨R, o + 2, none⟩ u3).setCell ⟨R, o + 3, none⟩ u4).setCell ⟨R, o + 4, none⟩ u5

theorem set5_sv (W : World) (R o : Nat) (u1 u2 u3 u4 u5 : Value) : Sv W R (set5 W R o u1 u2 u3 u4 u5) := (((((Sv.refl W R).set _ _).set _ _).set _ _).set _ _).set _ _
theorem set5_size' (W : World) (R o : Nat) (u1 u2 u3 u4 u5 : Value) : (set5 W R o u1 u2 u3 u4 u5).heap.size = W.heap.size := by simp [set5, World.setCell]

/-- where one element is replaced -/
theorem RowF.set {Q : Nat → Prop} {W : World} {R : Nat} {es : List (Fm × Value)} (h : RowF Q W R es) {k : Nat} (hk : k < es.length) {f : Fm} {sl : Value} (hf : Fits f) (ha : FArgsP Q W sl f.args) (hQ : ∀ b, Q b → b ≠ R ∧ b < W.heap.size) (_ : R < W.heap.size) :
    RowF Q (set5 W R (k * 5) (.int .i64 f.op) (.string f.name) (.int .i64 f.val) (.int .i64 f.bound) sl) R (es.set k (f, sl)) := by
  have hsv := set5_sv W R (k * 5) (.int .i64 f.op) (.string f.name) (.int .i64 f.val) (.int .i64 f.bound) sl
  have hst : ∀ {s : Value} {l : List Fm}, FArgsP Q W s l → FArgsP Q (set5 W R (k * 5) (.int .i64 f.op) (.string f.name) (.int .i64 f.val) (.int .i64 f.bound) sl) s l :=
    fun hs => hs.same fun b hb => hsv.block b (hQ b hb).2 (hQ b hb).1
  have hsome : ∀ o u, W.cell? ⟨R, o, none⟩ = some u → ∃ cs t fr, W.heap[R]? = some (.cells cs t fr) ∧ o < cs.size := by
    intro o u hu
    unfold World.cell? at hu
    split at hu
    · next cs t fr hr =>
      refine ⟨cs, t, fr, hr, ?_⟩
      simp only [Option.isSome_none, Bool.false_eq_true, if_false] at hu
      exact (Array.getElem?_eq_some_iff.1 hu).1
    · cases hu
  obtain ⟨c0, c1, c2, c3, c4⟩ := h.cell k hk
  obtain ⟨cs, t, fr, hrow, ho4⟩ := hsome _ _ c4
  have hset : (set5 W R (k * 5) (.int .i64 f.op) (.string f.name) (.int .i64 f.val) (.int .i64 f.bound) sl).heap[R]? = some (.cells (((((cs.setIfInBounds (k * 5) (.int .i64 f.op)).setIfInBounds (k * 5 + 1) (.string f.name)).setIfInBounds (k * 5 + 2) (.int .i64 f.val)).setIfInBounds (k * 5 + 3) (.int .i64 f.bound)).setIfInBounds (k * 5 + 4) sl) t fr) := by
    unfold set5 World.setCell
    simp only [Array.getElem?_modify, if_pos, hrow, Option.map_some, Option.isSome_none, Bool.false_eq_true, if_false]
  have hcell : ∀ j, (set5 W R (k * 5) (.int .i64 f.op) (.string f.name) (.int .i64 f.val) (.int .i64 f.bound) sl).cell? ⟨R, j, none⟩ = (((((cs.setIfInBounds (k * 5) (.int .i64 f.op)).setIfInBounds (k * 5 + 1) (.string f.name)).setIfInBounds (k * 5 + 2) (.int .i64 f.val)).setIfInBounds (k * 5 + 3) (.int .i64 f.bound)).setIfInBounds (k * 5 + 4) sl)[j]? := by
    intro j
    unfold World.cell?
    rw [hset]
    simp
  have hold : ∀ j, W.cell? ⟨R, j, none⟩ = cs[j]? := by
    intro j
    unfold World.cell?
    rw [hrow]
    simp
  have hother : ∀ j, (j < k * 5 ∨ k * 5 + 5 ≤ j) → (set5 W R (k * 5) (.int .i64 f.op) (.string f.name) (.int .i64 f.val) (.int .i64 f.bound) sl).cell? ⟨R, j, none⟩ = W.cell? ⟨R, j, none⟩ := by
    intro j hj
    rw [hcell, hold]
    simp only [Array.getElem?_setIfInBounds]
    rw [if_neg (by omega), if_neg (by omega), if_neg (by omega), if_neg (by omega), if_neg (by omega)]
  refine ⟨fun i hi => ?_, fun j hj => ?_, fun e he => ?_⟩
  · rw [List.length_set] at hi
    by_cases hik : i = k
    · subst hik
      rw [List.getElem_set_self]
      refine ⟨?_, ?_, ?_, ?_, ?_⟩ <;> rw [hcell] <;> simp only [Array.getElem?_setIfInBounds, Array.size_setIfInBounds]
      · rw [if_neg (by omega), if_neg (by omega), if_neg (by omega), if_neg (by omega), if_pos trivial, if_pos (by omega)]
      · rw [if_neg (by omega), if_neg (by omega), if_neg (by omega), if_pos trivial, if_pos (by omega)]
      · rw [if_neg (by omega), if_neg (by omega), if_pos trivial, if_pos (by omega)]
      · rw [if_neg (by omega), if_pos trivial, if_pos (by omega)]
      · rw [if_pos trivial, if_pos (by omega)]
    · rw [List.getElem_set_ne (fun e => hik e.symm)]
      obtain ⟨q0, q1, q2, q3, q4⟩ := h.cell i hi
      refine ⟨?_, ?_, ?_, ?_, ?_⟩ <;> rw [hother _ (by omega)] <;> assumption
  · rw [List.length_set] at hj
    have hfr := h.free j hj
    unfold World.frozen? at hfr ⊢
    rw [hset]
    rw [hrow] at hfr
    exact hfr
  · rcases List.mem_or_eq_of_mem_set he with he | rfl
    · exact ⟨(h.good e he).1, hst (h.good e he).2⟩
    · exact ⟨hf, hst ha⟩

theorem setCells_sv (R : Nat) : ∀ (cs : List Value) (o : Nat) (W : World), Sv W R (W.setCells R o cs)
  | [], _, W => Sv.refl W R
  | c :: cs, o, W => by
    rw [World.setCells]
    exact ((Sv.refl W R).set o c).trans (setCells_sv R cs (o + 1) _)
theorem setCells_frozen (R : Nat) (a : Addr) : ∀ (cs : List Value) (o : Nat) (W : World), (W.setCells R o cs).frozen? a = W.frozen? a
  | [], _, W => rfl
  | c :: cs, o, W => by
    rw [World.setCells, setCells_frozen R a cs]
    unfold World.frozen? World.setCell
    simp only [Array.getElem?_modify]
    by_cases h : R = a.block
    · rw [if_pos h]
      cases W.heap[a.block]? with
      | none => rfl
      | some ob => cases ob <;> rfl
    · rw [if_neg h]
/-- what stands before the cells that are cleared -/
theorem RowF.cleared {Q : Nat → Prop} {W : World} {R : Nat} {es : List (Fm × Value)} (h : RowF Q W R es) (cs : List Value) (o : Nat) (ho : es.length * 5 ≤ o) (hQ : ∀ b, Q b → b ≠ R ∧ b < W.heap.size) : RowF Q (W.setCells R o cs) R es := by
  have hsv := setCells_sv R cs o W
  have hc : ∀ j, j < o → (W.setCells R o cs).cell? ⟨R, j, none⟩ = W.cell? ⟨R, j, none⟩ := fun j hj => World.cell?_setCells_out R cs o W ⟨R, j, none⟩ (fun _ _ => .inl hj)
  refine ⟨fun k hk => ?_, fun j hj => (setCells_frozen R _ cs o W).trans (h.free j hj), fun e he => ⟨(h.good e he).1, (h.good e he).2.same fun b hb => hsv.block b (hQ b hb).2 (hQ b hb).1⟩⟩
  obtain ⟨q0, q1, q2, q3, q4⟩ := h.cell k hk
  refine ⟨?_, ?_, ?_, ?_, ?_⟩ <;> rw [hc _ (by omega)] <;> assumption

theorem run_clear_fm (W : World) (R o n c : Nat) (hn : 0 < n) (hc : ∀ j, j < n * 5 → (W.cell? ⟨R, o + j, none⟩).isSome = true) (hf : ∀ j, j < n * 5 → W.frozen? ⟨R, o + j, none⟩ = false) :
    ∃ cs, ∀ ty, (Builtin.clear_ #[22] ty #[.slice (some ⟨R, o, none⟩) n c]).run Tryz.prog W = .ok (.tuple #[]) (W.setCells R o cs) := by
  refine ⟨(Builtin.zeroCells (Value.agg #[.int .i64 0, .string ⟨#[]⟩, .int .i64 0, .int .i64 0, .slice none 0 0]).cells n).toList, fun ty => ?_⟩
  have hz5 : (Value.agg #[.int .i64 0, .string ⟨#[]⟩, .int .i64 0, .int .i64 0, .slice none 0 0]).cells = #[.int .i64 0, .string ⟨#[]⟩, .int .i64 0, .int .i64 0, .slice none 0 0] := by rfl
  have hlen : (Builtin.zeroCells (Value.agg #[.int .i64 0, .string ⟨#[]⟩, .int .i64 0, .int .i64 0, .slice none 0 0]).cells n).toList.length = n * 5 := by rw [hz5]; simp [Builtin.zeroCells]
  have hst := run_storeCells_cells (P := Tryz.prog) R o (Builtin.zeroCells (Value.agg #[.int .i64 0, .string ⟨#[]⟩, .int .i64 0, .int .i64 0, .slice none 0 0]).cells n).toList 0 W (by rw [hlen]; simpa using hc) (by rw [hlen]; simpa using hf) (by
    intro v hv
    rw [hz5] at hv
    simp only [Builtin.zeroCells, Array.toList_map, List.mem_map] at hv
    obtain ⟨i, -, rfl⟩ := hv
    have : i % 5 = 0 ∨ i % 5 = 1 ∨ i % 5 = 2 ∨ i % 5 = 3 ∨ i % 5 = 4 := by omega
    rcases this with h | h | h | h | h <;> simp only [List.size_toArray, List.length_cons, List.length_nil] <;> rw [h] <;> rfl)
  simp only [Nat.add_zero] at hst
  have hzv : ∀ w, (zeroValue 24).run Tryz.prog w = .ok (Value.agg #[.int .i64 0, .string ⟨#[]⟩, .int .i64 0, .int .i64 0, .slice none 0 0]) w := Tryz.zeroValue24
  obtain ⟨m, rfl⟩ : ∃ m, n = m + 1 := ⟨n - 1, by omega⟩
  simp [Builtin.clear_, run_underlying Tryz.underlying22, hzv, hst]

end Go.Proofs.YtbnnjbfbifihaaaGreatDoor

/-
  The contract of slices.CompactFunc at formulas.
-/
namespace Go.Proofs.YtbnnjbfbifihaaaGreatDoor
open Go.RowKit
open Go.Sort hiding Below

theorem grown5 {W : World} {b o : Nat} {a1 a2 a3 a4 a5 : Value} (h : Cells5 W b o a1 a2 a3 a4 a5) (hb : b < W.heap.size) : ∀ (n : Nat) (os : Array Obj), Cells5 (grow (W.drewN n) os) b o a1 a2 a3 a4 a5 :=
  fun n os => ⟨cell_grown (w := W) hb h.1 n os, cell_grown (w := W) hb h.2.1 n os, cell_grown (w := W) hb h.2.2.1 n os, cell_grown (w := W) hb h.2.2.2.1 n os, cell_grown (w := W) hb h.2.2.2.2 n os⟩

set_option maxRecDepth 100000 in
set_option maxHeartbeats 4000000 in
theorem compact_any (Q : Nat → Prop) (R cap k9 : Nat) (es : List (Fm × Value)) (w : World) (hR : RowF Q w R es) (hlt : R < w.heap.size) (hQ : ∀ b, Q b → b ≠ R ∧ b < w.heap.size) (hn : es.length ≤ 1000000) (hcap : es.length ≤ cap) (hk9 : k9 < w.heap.size) (hkR : k9 ≠ R)
    (hc9 : w.cell? ⟨k9, 0, none⟩ = some (.func (.func 19) #[] #[])) :
    Calls Tryz.prog 130 #[.slice (some ⟨R, 0, none⟩) es.length cap, .func (.func 128) #[] #[.pointer (some ⟨k9, 0, none⟩)]] w fun e w' =>
      ∃ es' : List (Fm × Value), e = .returned (.slice (some ⟨R, 0, none⟩) es'.length cap) ∧ es'.map Prod.fst = compT (es.map Prod.fst) es.length ∧ es'.length ≤ es.length ∧ RowF Q w' R es' ∧ Sv w R w' := by
  have hmix : Tryz.prog.follows .mixedOrders = true := by kernel_rfl
  obtain ⟨fs, hfs⟩ : ∃ fs, Hid (es.map Prod.fst = fs) := ⟨_, rfl⟩
  have hfl : fs.length = es.length := by rw [← hfs.out]; simp
  have hfg : Hid (∀ k (h : k < es.length), fs.getD k zeroF = es[k].1) := by
    intro k h
    rw [getD_at (by omega)]
    simp only [← hfs.out, List.getElem_map]
  rw [hfs.out]
  by_cases h2 : es.length < 2
  · have hT : Hid (compT fs es.length = fs) := by
      unfold Hid
      rw [compT_take (by omega) (fun j hj h0 => by omega), ← hfl, List.take_length]
    go_enter Tryz.func130, Tryz.ntmps130
    go_wp2_with fail
    go_ret
    exact ⟨es, rfl, by rw [hT.out, hfs.out], Nat.le_refl _, hR, Sv.refl _ _⟩
  · go_enter Tryz.func130, Tryz.ntmps130
    go_wp2_with fail
    go_loopw [5] (fun a wr => ∃ k : Nat, 1 ≤ k ∧ k ≤ es.length ∧ a = .int .i64 (k : Int) ∧ Hid (∀ j, j < k → j ≠ 0 → cmpF (fs.getD j zeroF) (fs.getD (j - 1) zeroF) ≠ 0) ∧ BelD w.heap.size w wr) (fun a _ => es.length - (intOf a).toNat)
    case atStart => exact ⟨1, Nat.le_refl _, by omega, rfl, hidi fun j h1 h0 => absurd h0 (by omega), BelD.refl _ _⟩
    case round =>
      obtain ⟨k, hk1, hkn, rfl, hne, hB⟩ := hrel
      obtain ⟨m, hmk⟩ : ∃ m, Hid (k = m + 1) := ⟨k - 1, hidi (by omega)⟩
      have hm : m < es.length := by have := hmk.out; omega
      have hcast : (k : Int) - 1 = (m : Int) := by have := hmk.out; omega
      have hwm : IntKind.i64.wrap (m : Int) = (m : Int) := IntWalk.i64_in _ (by omega)
      have hRr := hR.kept hB.toBelow hlt (fun b hb => (hQ b hb).2)
      have hzr := hB.size
      have hQr : Hid (∀ b, Q b → b ≠ R ∧ b < wr.heap.size) := fun b hb => ⟨(hQ b hb).1, by have := (hQ b hb).2; omega⟩
      by_cases hm2 : k < es.length
      · have hF := hRr.fat (fun b hb => (hQr.out b hb).2) hm2
        have hG := hRr.fat (fun b hb => (hQr.out b hb).2) hm
        have hcall := hidi (same_grown es[k].1 es[m].1 _ _ k9 wr hF hG (by omega) ((hB.toBelow.cell (p := ⟨k9, 0, none⟩) hk9).trans hc9))
        have hy := grown5 (hRr.cell k hm2) (by omega)
        have hx := grown5 (hRr.cell m hm) (by omega)
        have y0 := fun n os => (hy n os).1
        have y1 := fun n os => (hy n os).2.1
        have y2 := fun n os => (hy n os).2.2.1
        have y3 := fun n os => (hy n os).2.2.2.1
        have y4 := fun n os => (hy n os).2.2.2.2
        have x0 := fun n os => (hx n os).1
        have x1 := fun n os => (hx n os).2.1
        have x2 := fun n os => (hx n os).2.2.1
        have x3 := fun n os => (hx n os).2.2.2.1
        have x4 := fun n os => (hx n os).2.2.2.2
        have hfy := hidi (hfg.out k hm2)
        have hfx := hidi (hfg.out m hm)
        clear hF hG hy hx
        generalize hey : es[k] = ey at *
        generalize hex : es[m] = ex at *
        obtain ⟨ey, sy⟩ := ey
        obtain ⟨ex, sx⟩ := ex
        have hey := hidi hey
        have hex := hidi hex
        unfold fval at hcall
        dsimp only at *
        by_cases hz : cmpF ey ex = 0
        · have hz' : Hid ((cmpF ey ex == 0) = true) := by unfold Hid; rw [hz]; rfl
          rw [hz'.out] at hcall
          clear hz
          go_wp2_with fail
          go_quiet_grown (exact hcall.out _ _)
          go_wp2_with fail
          obtain ⟨L, hL⟩ : ∃ L, Hid (es.length - k = L) := ⟨_, rfl⟩
          obtain ⟨C, hC⟩ : ∃ C, Hid (cap - k = C) := ⟨_, rfl⟩
          have hkL : k + L = es.length := by have := hL.out; omega
          have hkC : k + C = cap := by have := hC.out; omega
          rw [hL.out, hC.out]
          have hbg := hB.trans ((grow_belD wr nq osq).mono hB.size)
          have hst0 : Hid ((es.take k).map Prod.fst = compT fs (k + 1)) := by
            unfold Hid
            rw [compT_dup (by omega) (by
              rw [hfy.out, show k - 1 = m by have := hmk.out; omega, hfx.out]
              simpa using hz'.out), compT_take (by omega) (fun j hj h0 => hne.out j hj h0), List.map_take, hfs.out]
          clear hcall y0 y1 y2 y3 y4 x0 x1 x2 x3 x4 hcast hwm
          go_loopw [5, 7] (fun a b W => ∃ kw j : Nat, a = .int .i64 (kw : Int) ∧ b = .int .i64 (j : Int) ∧ 1 ≤ j ∧ j ≤ L ∧ k ≤ kw ∧ kw + 1 ≤ k + j ∧ Sv w R W ∧ ∃ cur : List (Fm × Value), cur.length = es.length ∧ RowF Q W R cur ∧ Hid ((cur.take kw).map Prod.fst = compT fs (k + j)) ∧ Hid (∀ i (h : i < cur.length) (h' : i < es.length), k + j ≤ i + 1 → cur[i] = es[i])) (fun _ b _ => L - (intOf b).toNat)
          case atStart => exact ⟨k, 1, rfl, rfl, Nat.le_refl _, by omega, Nat.le_refl _, Nat.le_refl _, Sv.of_below hbg.toBelow, es, rfl, hR.kept hbg.toBelow hlt (fun b hb => (hQ b hb).2), hst0, hidi fun _ _ _ _ => rfl⟩
          case round =>
            obtain ⟨kw, j, rfl, rfl, hj1, hjL, hkw, hkj, hS, cur, hcl, hRc, htk, hsame⟩ := hrel
            have hzS := hS.size
            have hQW : Hid (∀ b, Q b → b ≠ R ∧ b < wr.heap.size) := fun b hb => ⟨(hQ b hb).1, by have := (hQ b hb).2; omega⟩
            by_cases hjl : j < L
            · obtain ⟨p, hp⟩ : ∃ p, Hid (j = p + 1) := ⟨j - 1, hidi (by omega)⟩
              have hp1 := hp.out
              have hcast : (j : Int) - 1 = (p : Int) := by omega
              have hwp : IntKind.i64.wrap (p : Int) = (p : Int) := IntWalk.i64_in _ (by omega)
              have hpL : p < L := by omega
              have e1 : k + j < cur.length := by omega
              have e2 : k + p < cur.length := by omega
              have hF := hRc.fat (fun b hb => (hQW.out b hb).2) e1
              have hG := hRc.fat (fun b hb => (hQW.out b hb).2) e2
              have hcall := hidi (same_grown cur[k + j].1 cur[k + p].1 _ _ k9 wr hF hG (by omega) (hS.cell hk9 hkR hc9))
              have hy := grown5 (hRc.cell (k + j) e1) (show R < wr.heap.size by omega)
              have hx := grown5 (hRc.cell (k + p) e2) (show R < wr.heap.size by omega)
              rw [Nat.add_mul] at hy hx
              have y0 := fun n os => (hy n os).1
              have y1 := fun n os => (hy n os).2.1
              have y2 := fun n os => (hy n os).2.2.1
              have y3 := fun n os => (hy n os).2.2.2.1
              have y4 := fun n os => (hy n os).2.2.2.2
              have x0 := fun n os => (hx n os).1
              have x1 := fun n os => (hx n os).2.1
              have x2 := fun n os => (hx n os).2.2.1
              have x3 := fun n os => (hx n os).2.2.2.1
              have x4 := fun n os => (hx n os).2.2.2.2
              have hgood := hidi (hRc.good _ (List.getElem_mem e1))
              have g1 : k + j < es.length := by omega
              have g2 : k + p < es.length := by omega
              have hcy := hidi (hsame.out (k + j) e1 g1 (by omega))
              have hcx := hidi (hsame.out (k + p) e2 g2 (by omega))
              have hfy := hidi (hfg.out (k + j) g1)
              have hfx := hidi (hfg.out (k + p) g2)
              rw [← hcy.out] at hfy
              rw [← hcx.out] at hfx
              clear hF hG hy hx hp1
              generalize heu : cur[k + j] = eu at *
              generalize hev : cur[k + p] = ev at *
              obtain ⟨eu, su⟩ := eu
              obtain ⟨ev, sv⟩ := ev
              have heu := hidi heu
              have hev := hidi hev
              unfold fval at hcall
              dsimp only at *
              by_cases hz : cmpF eu ev = 0
              · have hz' : Hid ((cmpF eu ev == 0) = true) := by unfold Hid; rw [hz]; rfl
                rw [hz'.out] at hcall
                have htk' : Hid ((cur.take kw).map Prod.fst = compT fs (k + (j + 1))) := by
                  unfold Hid
                  rw [htk.out, show k + (j + 1) = k + j + 1 by omega, compT_dup (by omega) (by
                    rw [hfy.out, show k + j - 1 = k + p by have := hp.out; omega, hfx.out]; exact hz)]
                clear hz
                go_wp2_with fail
                go_quiet_grown (exact hcall.out _ _)
                go_wp2
                refine ⟨⟨kw, j + 1, rfl, by go_num, by omega, by omega, hkw, by omega, hS.next (grow_belD _ _ _).toBelow, cur, hcl, hRc.kept (grow_belD _ _ _).toBelow (by omega) (fun b hb => (hQW.out b hb).2), htk', hidi fun i h h' h3 => hsame.out i h h' (by omega)⟩, ?_⟩
                simp only [intOf]
                omega
              · have hz' : Hid ((cmpF eu ev == 0) = false) := by unfold Hid; simpa using hz
                rw [hz'.out] at hcall
                clear hz
                go_wp2_with fail
                go_quiet_grown (exact hcall.out _ _)
                obtain ⟨X, hX⟩ : ∃ X, Hid (grow (wr.drewN nq) osq = X) := ⟨_, rfl⟩
                have hBX : Below wr.heap.size wr X := by rw [← hX.out]; exact (grow_belD _ _ _).toBelow
                have hRX := hRc.kept hBX (by omega) (fun b hb => (hQW.out b hb).2)
                have hzX := hBX.size
                have e3 : kw < cur.length := by omega
                obtain ⟨o9, c9, rfl⟩ := hgood.out.2.shape
                have hy := hRX.cell (k + j) e1
                rw [Nat.add_mul, heu.out] at hy
                obtain ⟨y0, y1, y2, y3, y4⟩ := hy
                obtain ⟨k0, k1, k2, k3, k4⟩ := hRX.cell kw e3
                have f0 := hRX.free (kw * 5) (by omega)
                have f1 := hRX.free (kw * 5 + 1) (by omega)
                have f2 := hRX.free (kw * 5 + 2) (by omega)
                have f3 := hRX.free (kw * 5 + 3) (by omega)
                have f4 := hRX.free (kw * 5 + 4) (by omega)
                dsimp only at y0 y1 y2 y3 y4
                rw [hX.out]
                have hgo := hidi hgood.out.1
                have haX := hidi (hgood.out.2.kept hBX (fun b hb => (hQW.out b hb).2))
                have hset := hidi (hRX.set e3 (f := eu) (sl := .slice o9 eu.args.length c9) hgo.out haX.out (fun b hb => ⟨(hQW.out b hb).1, by have := (hQW.out b hb).2; omega⟩) (by omega))
                have hsv5 := hidi (set5_sv X R (kw * 5) (.int .i64 eu.op) (.string eu.name) (.int .i64 eu.val) (.int .i64 eu.bound) (.slice o9 eu.args.length c9))
                have htk' : Hid (((cur.set kw (eu, .slice o9 eu.args.length c9)).take (kw + 1)).map Prod.fst = compT fs (k + (j + 1))) := by
                  unfold Hid
                  rw [List.take_succ_eq_append_getElem (by simpa using e3), List.getElem_set_self, List.map_append, List.take_set_of_le (Nat.le_refl _), htk.out, show k + (j + 1) = k + j + 1 by omega, compT_new (fun hc => by
                    have h9 := hc.2
                    rw [hfy.out, show k + j - 1 = k + p by have := hp.out; omega, hfx.out] at h9
                    have := hz'.out
                    rw [h9] at this
                    exact absurd this (by decide)), hfy.out]
                  rfl
                go_wp2
                refine ⟨⟨kw + 1, j + 1, by go_num, by go_num, by omega, by omega, by omega, by omega, (hS.next hBX).trans hsv5.out, cur.set kw (eu, .slice o9 eu.args.length c9), by rw [List.length_set]; exact hcl, hset.out, htk', hidi fun i h h' h3 => ?_⟩, ?_⟩
                · rw [List.getElem_set_ne (by omega)]
                  exact hsame.out i (by simpa using h) h' (by omega)
                · simp only [intOf]
                  omega
            · obtain rfl : j = L := by omega
              obtain ⟨cs, hcs⟩ := run_clear_fm wr R (kw * 5) (es.length - kw) (cap - kw) (by omega) (fun i hi => by
                obtain ⟨q, r, hr5, rfl⟩ : ∃ q r, r < 5 ∧ i = q * 5 + r := ⟨i / 5, i % 5, by omega, by omega⟩
                have hq : kw + q < cur.length := by omega
                obtain ⟨z0, z1, z2, z3, z4⟩ := hRc.cell (kw + q) hq
                rw [show kw * 5 + (q * 5 + r) = (kw + q) * 5 + r by omega]
                match r, hr5 with
                | 0, _ => rw [Nat.add_zero, z0]; rfl
                | 1, _ => rw [z1]; rfl
                | 2, _ => rw [z2]; rfl
                | 3, _ => rw [z3]; rfl
                | 4, _ => rw [z4]; rfl) (fun i hi => hRc.free _ (by omega))
              have hclr := hidi ((hRc.take kw).cleared cs (kw * 5) (by rw [List.length_take]; omega) hQW.out)
              have hsvc := hidi (setCells_sv R cs (kw * 5) wr)
              have htl : Hid ((cur.take kw).length = kw) := by unfold Hid; rw [List.length_take]; omega
              go_wp2
              go_ret
              refine ⟨cur.take kw, ?_, by rw [htk.out, hkL], by rw [htl.out]; omega, hclr.out, hS.trans hsvc.out⟩
              rw [htl.out]
              rfl
        · have hz' : Hid ((cmpF ey ex == 0) = false) := by unfold Hid; simpa using hz
          rw [hz'.out] at hcall
          clear hz
          go_wp2_with fail
          go_quiet_grown (exact hcall.out _ _)
          go_wp2
          refine ⟨⟨k + 1, by omega, by omega, by go_num, hidi fun j hj h0 => ?_, hB.trans ((grow_belD _ _ _).mono hB.size)⟩, ?_⟩
          · rcases Nat.lt_or_ge j k with h | h
            · exact hne.out j h h0
            · obtain rfl : j = k := by omega
              rw [hfy.out, show j - 1 = m by have := hmk.out; omega, hfx.out]
              exact fun e => by have := hz'.out; rw [e] at this; exact absurd this (by decide)
          · simp only [intOf]
            omega
      · have hT : Hid (compT fs es.length = fs) := by
          unfold Hid
          rw [compT_take (by omega) (fun j hj h0 => hne.out j (by omega) h0), ← hfl, List.take_length]
        go_wp2
        go_ret
        exact ⟨es, rfl, by rw [hT.out, hfs.out], Nat.le_refl _, hRr, Sv.of_below hB.toBelow⟩

end Go.Proofs.YtbnnjbfbifihaaaGreatDoor

/-
  The contracts of slices.IndexFunc and slices.DeleteFunc at formulas.
-/
namespace Go.Proofs.YtbnnjbfbifihaaaGreatDoor
open Go.RowKit
open Go.Sort hiding Below

/-- what the closure that looks for units needs -/
structure UCtx (w : World) (R k9 k11 k6 : Nat) (unit : Fm) : Prop where
  l9 : k9 < w.heap.size ∧ k9 ≠ R
  l11 : k11 < w.heap.size ∧ k11 ≠ R
  l6 : k6 < w.heap.size ∧ k6 ≠ R
  c9 : w.cell? ⟨k9, 0, none⟩ = some (.func (.func 19) #[] #[])
  c11 : w.cell? ⟨k11, 0, none⟩ = some (.func (.func 128) #[] #[.pointer (some ⟨k9, 0, none⟩)])
  c6 : Cells5 w k6 0 (.int .i64 unit.op) (.string unit.name) (.int .i64 unit.val) (.int .i64 unit.bound) (.slice none 0 0)
  hu : Fits unit
  ha : unit.args = []

theorem UCtx.sv {w W : World} {R k9 k11 k6 : Nat} {unit : Fm} (h : UCtx w R k9 k11 k6 unit) (hS : Sv w R W) : UCtx W R k9 k11 k6 unit :=
  ⟨⟨Nat.lt_of_lt_of_le h.l9.1 hS.size, h.l9.2⟩, ⟨Nat.lt_of_lt_of_le h.l11.1 hS.size, h.l11.2⟩, ⟨Nat.lt_of_lt_of_le h.l6.1 hS.size, h.l6.2⟩,
   hS.cell h.l9.1 h.l9.2 h.c9, hS.cell h.l11.1 h.l11.2 h.c11,
   ⟨hS.cell h.l6.1 h.l6.2 h.c6.1, hS.cell h.l6.1 h.l6.2 h.c6.2.1, hS.cell h.l6.1 h.l6.2 h.c6.2.2.1, hS.cell h.l6.1 h.l6.2 h.c6.2.2.2.1, hS.cell h.l6.1 h.l6.2 h.c6.2.2.2.2⟩, h.hu, h.ha⟩

set_option maxRecDepth 100000 in
set_option maxHeartbeats 1000000 in
theorem isunit_d (x unit : Fm) (u : Value) (R k9 k11 k6 : Nat) (w : World) (hu : FAt w.heap.size w u x) (hU : UCtx w R k9 k11 k6 unit) :
    Calls Tryz.prog 134 #[u, .pointer (some ⟨k11, 0, none⟩), .pointer (some ⟨k6, 0, none⟩)] w fun e w' => e = .returned (.bool (cmpF x unit == 0)) ∧ BelD w.heap.size w w' := by
  obtain ⟨o, c, rfl, -, hAf⟩ := hu.open
  obtain ⟨W0, hW0⟩ : ∃ W0, Hid (w.alloc (.cells #[.int .i64 x.op, .string x.name, .int .i64 x.val, .int .i64 x.bound, .slice o x.args.length c] 24) = W0) := ⟨_, rfl⟩
  have hB0 : BelD w.heap.size w W0 := by rw [← hW0.out]; exact belD_box _ _
  have hbx : Cells5 W0 w.heap.size 0 (.int .i64 x.op) (.string x.name) (.int .i64 x.val) (.int .i64 x.bound) (.slice o x.args.length c) := by rw [← hW0.out]; exact box5 _ _ _ _ _ _ _
  have hU0 := hU.sv (Sv.of_below hB0.toBelow)
  have hcall := hidi (same_d x unit _ _ k9 W0 (hu.next hB0.toBelow) (show FAt W0.heap.size W0 (fval unit (.slice none 0 0)) unit from ⟨_, rfl, hU.hu, by rw [hU.ha]; exact .nil _ _⟩) hU0.l9.1 hU0.c9)
  obtain ⟨x0, x1, x2, x3, x4⟩ := hbx
  obtain ⟨q0, q1, q2, q3, q4⟩ := hU0.c6
  have q5 := hU0.c11
  rw [Nat.zero_add] at x1 x2 x3 x4 q1 q2 q3 q4
  unfold fval at hcall
  clear hU0
  go_enter Tryz.func134, Tryz.ntmps134
  rw [← hW0.out] at x0 x1 x2 x3 x4 q0 q1 q2 q3 q4 q5
  go_wp2_with (go_at_call 128; rw [hW0.out]; refine hcall.out.mono ?_; rintro e w1 ⟨rfl, hb1⟩)
  go_ret
  exact ⟨rfl, hB0.trans (hb1.mono hB0.size)⟩

set_option maxRecDepth 100000 in
set_option maxHeartbeats 2000000 in
theorem index_any (Q : Nat → Prop) (R cap k9 k11 k6 : Nat) (unit : Fm) (es : List (Fm × Value)) (w : World) (hR : RowF Q w R es) (hlt : R < w.heap.size) (hQ : ∀ b, Q b → b ≠ R ∧ b < w.heap.size) (hn : es.length ≤ 1000000) (hU : UCtx w R k9 k11 k6 unit) :
    Calls Tryz.prog 141 #[.slice (some ⟨R, 0, none⟩) es.length cap, .func (.func 134) #[] #[.pointer (some ⟨k11, 0, none⟩), .pointer (some ⟨k6, 0, none⟩)]] w fun e w' =>
      ((e = .returned (.int .i64 (-1)) ∧ Hid (∀ k (h : k < es.length), cmpF es[k].1 unit ≠ 0)) ∨ (∃ i : Nat, e = .returned (.int .i64 i) ∧ i < es.length ∧ Hid (∃ (h : i < es.length), cmpF es[i].1 unit = 0) ∧ Hid (∀ k (h : k < es.length), k < i → cmpF es[k].1 unit ≠ 0))) ∧ BelD w.heap.size w w' := by
  go_enter Tryz.func141, Tryz.ntmps141
  go_wp2_with fail
  go_loopw [8] (fun a wr => ∃ k : Nat, k ≤ es.length ∧ a = .int .i64 (k : Int) ∧ Hid (∀ j (h : j < es.length), j < k → cmpF es[j].1 unit ≠ 0) ∧ BelD w.heap.size w wr) (fun a _ => es.length - (intOf a).toNat)
  case atStart => exact ⟨0, Nat.zero_le _, rfl, hidi fun j _ h => absurd h (by omega), BelD.refl _ _⟩
  case round =>
    obtain ⟨k, hk, rfl, hne, hB⟩ := hrel
    have hRr := hR.kept hB.toBelow hlt (fun b hb => (hQ b hb).2)
    have hzr := hB.size
    by_cases hkl : k < es.length
    · have hF := hRr.fat (fun b hb => by have := (hQ b hb).2; omega) hkl
      obtain ⟨y0, y1, y2, y3, y4⟩ := hRr.cell k hkl
      have hcall := hidi (isunit_d es[k].1 unit _ R k9 k11 k6 wr hF (hU.sv (Sv.of_below hB.toBelow)))
      obtain ⟨z, hz⟩ : ∃ z, Hid (cmpF es[k].1 unit = z) := ⟨_, hidi rfl⟩
      rw [hz.out] at hcall
      clear hF
      generalize hek : es[k] = ek at *
      obtain ⟨ek, sk⟩ := ek
      have hek := hidi hek
      unfold fval at hcall
      dsimp only at *
      by_cases h0 : z = 0
      · subst h0
        go_wp2_with (go_at_call 134; refine hcall.out.mono ?_; rintro e w1 ⟨rfl, hb1⟩)
        go_ret
        exact ⟨.inr ⟨k, rfl, hkl, hidi ⟨hkl, by rw [hek.out]; exact hz.out⟩, hne⟩, hB.trans (hb1.mono hB.size)⟩
      · have h1 : (z == 0) = false := by simpa using h0
        have hz2 := hidi h0
        clear h0
        rw [h1] at hcall
        go_wp2_with (go_at_call 134; refine hcall.out.mono ?_; rintro e w1 ⟨rfl, hb1⟩)
        go_roundw
        case rel =>
          refine ⟨k + 1, by omega, by go_num, hidi fun j hj h => ?_, hB.trans (hb1.mono hB.size)⟩
          rcases Nat.lt_or_ge j k with h' | h'
          · exact hne.out j hj h'
          · obtain rfl : j = k := by omega
            rw [hek.out]
            exact fun e => hz2.out (hz.out.symm.trans e)
        case measure => simp [intOf]; omega
    · obtain rfl : k = es.length := by omega
      go_wp2
      go_ret
      exact ⟨.inl ⟨rfl, hidi fun j hj => hne.out j hj hj⟩, hB⟩

end Go.Proofs.YtbnnjbfbifihaaaGreatDoor

/-
  The contract of slices.DeleteFunc at formulas.
-/
namespace Go.Proofs.YtbnnjbfbifihaaaGreatDoor
open Go.RowKit
open Go.Sort hiding Below

/-- all but the units -/
def dropF (unit : Fm) (l : List Fm) : List Fm := l.filter fun x => !decide (cmpF x unit = 0)
theorem dropF_snoc {unit x : Fm} {l : List Fm} : dropF unit (l ++ [x]) = dropF unit l ++ (if cmpF x unit = 0 then [] else [x]) := by
  unfold dropF
  rw [List.filter_append]
  by_cases h : cmpF x unit = 0 <;> simp [h]
theorem dropF_all {unit : Fm} {l : List Fm} (h : ∀ x ∈ l, cmpF x unit ≠ 0) : dropF unit l = l := by
  unfold dropF
  rw [List.filter_eq_self]
  intro x hx
  simp [h x hx]

set_option maxRecDepth 100000 in
set_option maxHeartbeats 4000000 in
theorem delete_any (Q : Nat → Prop) (R cap k9 k11 k6 : Nat) (unit : Fm) (es : List (Fm × Value)) (w : World) (hR : RowF Q w R es) (hlt : R < w.heap.size) (hQ : ∀ b, Q b → b ≠ R ∧ b < w.heap.size) (hn : es.length ≤ 1000000) (hcap : es.length ≤ cap) (hU : UCtx w R k9 k11 k6 unit) :
    Calls Tryz.prog 133 #[.slice (some ⟨R, 0, none⟩) es.length cap, .func (.func 134) #[] #[.pointer (some ⟨k11, 0, none⟩), .pointer (some ⟨k6, 0, none⟩)]] w fun e w' =>
      ∃ es' : List (Fm × Value), e = .returned (.slice (some ⟨R, 0, none⟩) es'.length cap) ∧ es'.map Prod.fst = dropF unit (es.map Prod.fst) ∧ es'.length ≤ es.length ∧ RowF Q w' R es' ∧ Sv w R w' := by
  have hidx := hidi (index_any Q R cap k9 k11 k6 unit es w hR hlt hQ hn hU)
  obtain ⟨fs, hfs⟩ : ∃ fs, Hid (es.map Prod.fst = fs) := ⟨_, rfl⟩
  have hfl : fs.length = es.length := by rw [← hfs.out]; simp
  have hfg : Hid (∀ k (h : k < es.length), fs.take (k + 1) = fs.take k ++ [es[k].1]) := by
    intro k h
    rw [List.take_succ_eq_append_getElem (by omega)]
    simp only [← hfs.out, List.getElem_map]
  rw [hfs.out]
  go_enter Tryz.func133, Tryz.ntmps133
  go_wp2_with fail
  refine hidx.out.mono ?_
  rintro e w1 ⟨he, hb1⟩
  rcases he with ⟨rfl, hall⟩ | ⟨i0, rfl, hi0, hiu, hine⟩
  · have hD : Hid (dropF unit fs = fs) := by
      refine dropF_all fun x hx => ?_
      rw [← hfs.out] at hx
      obtain ⟨e, he, rfl⟩ := List.mem_map.1 hx
      obtain ⟨k, hk, rfl⟩ := List.getElem_of_mem he
      exact hall.out k hk
    go_wp2
    go_ret
    exact ⟨es, rfl, by rw [hD.out, hfs.out], Nat.le_refl _, hR.kept hb1.toBelow hlt (fun b hb => (hQ b hb).2), Sv.of_below hb1.toBelow⟩
  · have hst0 : Hid ((es.take i0).map Prod.fst = dropF unit (fs.take (i0 + 1))) := by
      obtain ⟨h0, hz⟩ := hiu.out
      unfold Hid
      rw [hfg.out i0 h0, dropF_snoc, if_pos hz, List.append_nil, List.map_take, hfs.out, dropF_all]
      intro x hx
      rw [← hfs.out, ← List.map_take] at hx
      obtain ⟨e, he, rfl⟩ := List.mem_map.1 hx
      obtain ⟨k, hk, rfl⟩ := List.getElem_of_mem he
      rw [List.getElem_take]
      rw [List.length_take] at hk
      exact hine.out k (by omega) (by omega)
    have hne1 : ((i0 : Int) == -1) = false := by simp
    go_wp2_with fail
    go_loopw [5, 6] (fun a b wr => ∃ i j : Nat, a = .int .i64 (i : Int) ∧ b = .int .i64 (j : Int) ∧ i + 1 ≤ j ∧ j ≤ es.length ∧ Sv w R wr ∧ ∃ cur : List (Fm × Value), cur.length = es.length ∧ RowF Q wr R cur ∧ Hid ((cur.take i).map Prod.fst = dropF unit (fs.take j)) ∧ Hid (∀ q (h : q < cur.length) (h' : q < es.length), j ≤ q → cur[q] = es[q])) (fun _ b _ => es.length - (intOf b).toNat)
    case atStart => exact ⟨i0, i0 + 1, rfl, by go_num, Nat.le_refl _, by omega, Sv.of_below hb1.toBelow, es, rfl, hR.kept hb1.toBelow hlt (fun b hb => (hQ b hb).2), hst0, hidi fun _ _ _ _ => rfl⟩
    case round =>
      obtain ⟨i, j, rfl, rfl, hij, hjn, hS, cur, hcl, hRc, htk, hsame⟩ := hrel
      have hzS := hS.size
      have hQW : Hid (∀ b, Q b → b ≠ R ∧ b < wr.heap.size) := fun b hb => ⟨(hQ b hb).1, by have := (hQ b hb).2; omega⟩
      by_cases hjl : j < es.length
      · have e1 : j < cur.length := by omega
        have hcj := hidi (hsame.out j e1 hjl (Nat.le_refl _))
        have hfj := hidi (hfg.out j hjl)
        rw [← hcj.out] at hfj
        have hcellj := hidi (hRc.cell j e1)
        have hgood := hidi (hRc.good _ (List.getElem_mem e1))
        clear hcj
        generalize heu : cur[j] = eu at *
        obtain ⟨eu, su⟩ := eu
        have heu := hidi heu
        dsimp only at hcellj hgood hfj
        obtain ⟨o9, c9, rfl⟩ := hgood.out.2.shape
        obtain ⟨X, hX⟩ : ∃ X, Hid (wr.alloc (.cells #[.int .i64 eu.op, .string eu.name, .int .i64 eu.val, .int .i64 eu.bound, .slice o9 eu.args.length c9] 24) = X) := ⟨_, hidi rfl⟩
        have hBX : BelD wr.heap.size wr X := by rw [← hX.out]; exact belD_box _ _
        have hbx : Cells5 X wr.heap.size 0 (.int .i64 eu.op) (.string eu.name) (.int .i64 eu.val) (.int .i64 eu.bound) (.slice o9 eu.args.length c9) := by rw [← hX.out]; exact box5 _ _ _ _ _ _ _
        have hzX : X.heap.size = wr.heap.size + 1 := by rw [← hX.out]; simp
        have hcall := hidi (isunit_d eu unit (.agg #[.int .i64 eu.op, .string eu.name, .int .i64 eu.val, .int .i64 eu.bound, .slice o9 eu.args.length c9]) R k9 k11 k6 X (show FAt X.heap.size X _ eu from ⟨_, rfl, hgood.out.1, (hgood.out.2.kept hBX.toBelow (fun b hb => (hQW.out b hb).2)).mono fun b hb => by have := (hQW.out b hb).2; omega⟩) (hU.sv (hS.next hBX.toBelow)))
        have hbx' := hidi hbx
        obtain ⟨x0, x1, x2, x3, x4⟩ := hbx
        rw [Nat.zero_add] at x1 x2 x3 x4
        obtain ⟨y0, y1, y2, y3, y4⟩ := hcellj.out
        rw [← hX.out] at x0 x1 x2 x3 x4
        by_cases hz : cmpF eu unit = 0
        · have hz' : Hid ((cmpF eu unit == 0) = true) := by unfold Hid; rw [hz]; rfl
          rw [hz'.out] at hcall
          have htk' : Hid ((cur.take i).map Prod.fst = dropF unit (fs.take (j + 1))) := by
            unfold Hid
            rw [hfj.out, dropF_snoc, if_pos hz, List.append_nil, htk.out]
          clear hz
          go_wp2_with (go_at_call 134; rw [hX.out]; refine hcall.out.mono ?_; rintro e w2 ⟨rfl, hb2⟩)
          go_roundw
          case rel =>
            have hS2 := (hS.next hBX.toBelow).next hb2.toBelow
            have hB2 := hBX.trans (hb2.mono hBX.size)
            exact ⟨i, j + 1, rfl, by go_num, by omega, by omega, hS2, cur, hcl, hRc.kept hB2.toBelow (by omega) (fun b hb => (hQW.out b hb).2), htk', hidi fun q h h' h3 => hsame.out q h h' (by omega)⟩
          case measure => simp only [intOf]; omega
        · have hz' : Hid ((cmpF eu unit == 0) = false) := by unfold Hid; simpa using hz
          rw [hz'.out] at hcall
          have e3 : i < cur.length := by omega
          have htk' : ∀ v, Hid (((cur.set i (eu, v)).take (i + 1)).map Prod.fst = dropF unit (fs.take (j + 1))) := by
            intro v
            unfold Hid
            rw [hfj.out, dropF_snoc, if_neg hz, List.take_succ_eq_append_getElem (by simpa using e3), List.getElem_set_self, List.map_append, List.take_set_of_le (Nat.le_refl _), htk.out]
            rfl
          clear hz
          go_wp2_with fail
          rw [hX.out]
          refine hcall.out.mono ?_
          rintro e w2 ⟨rfl, hb2⟩
          have hB2 := hBX.trans (hb2.mono hBX.size)
          have hz2 := hB2.size
          have hR2 := hidi (hRc.kept hB2.toBelow (by omega) (fun b hb => (hQW.out b hb).2))
          have hQ2 : Hid (∀ b, Q b → b ≠ R ∧ b < w2.heap.size) := hidi fun b hb => ⟨(hQW.out b hb).1, by have := (hQW.out b hb).2; omega⟩
          have hgo := hidi hgood.out.1
          have ha2 := hidi (hgood.out.2.kept hB2.toBelow (fun b hb => (hQW.out b hb).2))
          have hset := hidi (hR2.out.set e3 (f := eu) (sl := .slice o9 eu.args.length c9) hgo.out ha2.out hQ2.out (by omega))
          have hsv5 := hidi (set5_sv w2 R (i * 5) (.int .i64 eu.op) (.string eu.name) (.int .i64 eu.val) (.int .i64 eu.bound) (.slice o9 eu.args.length c9))
          clear x0 x1 x2 x3 x4 y0 y1 y2 y3 y4
          obtain ⟨x0, x1, x2, x3, x4⟩ := hbx'.out.below hb2.toBelow (by omega)
          rw [Nat.zero_add] at x1 x2 x3 x4
          obtain ⟨k0, k1, k2, k3, k4⟩ := hR2.out.cell i e3
          have f0 := hR2.out.free (i * 5) (by omega)
          have f1 := hR2.out.free (i * 5 + 1) (by omega)
          have f2 := hR2.out.free (i * 5 + 2) (by omega)
          have f3 := hR2.out.free (i * 5 + 3) (by omega)
          have f4 := hR2.out.free (i * 5 + 4) (by omega)
          go_wp2
          refine ⟨⟨i + 1, j + 1, by go_num, by go_num, by omega, by omega, (hS.next hB2.toBelow).trans hsv5.out, cur.set i (eu, .slice o9 eu.args.length c9), by rw [List.length_set]; exact hcl, hset.out, htk' _, hidi fun q h h' h3 => ?_⟩, ?_⟩
          · rw [List.getElem_set_ne (by omega)]
            exact hsame.out q (by simpa using h) h' (by omega)
          · simp only [intOf]
            omega
      · obtain rfl : j = es.length := by omega
        obtain ⟨cs, hcs⟩ := run_clear_fm wr R (i * 5) (es.length - i) (cap - i) (by omega) (fun t ht => by
          obtain ⟨q, r, hr5, rfl⟩ : ∃ q r, r < 5 ∧ t = q * 5 + r := ⟨t / 5, t % 5, by omega, by omega⟩
          have hq : i + q < cur.length := by omega
          obtain ⟨z0, z1, z2, z3, z4⟩ := hRc.cell (i + q) hq
          rw [show i * 5 + (q * 5 + r) = (i + q) * 5 + r by omega]
          match r, hr5 with
          | 0, _ => rw [Nat.add_zero, z0]; rfl
          | 1, _ => rw [z1]; rfl
          | 2, _ => rw [z2]; rfl
          | 3, _ => rw [z3]; rfl
          | 4, _ => rw [z4]; rfl) (fun t ht => hRc.free _ (by omega))
        have hclr := hidi ((hRc.take i).cleared cs (i * 5) (by rw [List.length_take]; omega) hQW.out)
        have hsvc := hidi (setCells_sv R cs (i * 5) wr)
        have htl : Hid ((cur.take i).length = i) := by unfold Hid; rw [List.length_take]; omega
        have htf : Hid (fs.take es.length = fs) := by unfold Hid; rw [← hfl, List.take_length]
        go_wp2
        go_ret
        refine ⟨cur.take i, ?_, by rw [htk.out, htf.out], by rw [htl.out]; omega, hclr.out, hS.trans hsvc.out⟩
        rw [htl.out]
        rfl

end Go.Proofs.YtbnnjbfbifihaaaGreatDoor

/-
  The contract of package formula's negated.
-/
namespace Go.Proofs.YtbnnjbfbifihaaaGreatDoor
open Go.RowKit
open Go.Sort hiding Below

theorem two_allocs_end (w : World) (a1 a2 a3 a4 a5 b1 b2 b3 b4 b5 : Value) :
    ((w.alloc (.cells #[a1, a2, a3, a4, a5] 24)).alloc (.cells #[b1, b2, b3, b4, b5] 24)).heap[w.heap.size + 1]? = some (.cells #[b1, b2, b3, b4, b5] 24 (0, 0)) ∧
    BelD w.heap.size w ((w.alloc (.cells #[a1, a2, a3, a4, a5] 24)).alloc (.cells #[b1, b2, b3, b4, b5] 24)) := by
  have h2 := heap_alloc_new (w.alloc (.cells #[a1, a2, a3, a4, a5] 24)) (.cells #[b1, b2, b3, b4, b5] 24)
  rw [show (w.alloc (.cells #[a1, a2, a3, a4, a5] 24)).heap.size = w.heap.size + 1 by simp] at h2
  exact ⟨h2, (belD_box w _).trans ((belD_box _ _).mono (by simp))⟩

set_option maxRecDepth 100000 in
set_option maxHeartbeats 2000000 in
theorem negated_any (P : Nat → Prop) (f : Fm) (v : Value) (w : World) (hv : FAtP P w v f) (hP : ∀ b, P b → b < w.heap.size) (hn : f.op = 4 → f.args ≠ []) :
    Calls Tryz.prog 113 #[v] w fun e w' => ∃ r, e = .returned (.tuple #[r, .bool (f.op == 4)]) ∧ FAtP P w' r (if f.op = 4 then arg0F f else zeroF) ∧ BelD w.heap.size w w' := by
  obtain ⟨o, c, rfl, hfit, hA⟩ := hv.open
  obtain ⟨W0, hW0, hB0, hcf, hcr, hlt⟩ := fm2_open_d w (.int .i64 f.op) (.string f.name) (.int .i64 f.val) (.int .i64 f.bound) (.slice o f.args.length c) (.int .i64 0) (.string ⟨#[]⟩) (.int .i64 0) (.int .i64 0) (.slice none 0 0)
  have hres := hidi (fm2_res hW0)
  obtain ⟨d0, d1, d2, d3, d4⟩ := hcf.out
  rw [Nat.zero_add] at d1 d2 d3 d4
  obtain ⟨-, -, -, -, -, -, m0, m1, m2, m3, m4⟩ := hres.out.cells
  obtain ⟨j1, j2, j3, j4, j5, ⟨i0, i1, i2, i3, i4⟩, -⟩ := hres.out.cells
  by_cases h4 : f.op = 4
  · obtain ⟨x, l, hxl⟩ : ∃ x l, f.args = x :: l := by
      cases h : f.args with
      | nil => exact absurd h (hn h4)
      | cons x l => exact ⟨x, l, rfl⟩
    obtain ⟨b, off, sl, rfl, hb, hc5, hfx, hax⟩ := args_at0 hA hxl
    obtain ⟨o2, c2, rfl⟩ := hax.shape
    have hbl := hP b hb
    obtain ⟨y0, y1, y2, y3, y4⟩ := hc5.below hB0.toBelow hbl
    have hN : Hid ((if f.op = 4 then arg0F f else zeroF) = x) := by unfold Hid arg0F; rw [if_pos h4, hxl]; rfl
    have h4b : Hid ((f.op == 4) = true) := by unfold Hid; simpa using h4
    have hlen : 0 < f.args.length := by rw [hxl]; simp
    have hax0 := hidi (hax.kept hB0.toBelow hP)
    rw [h4b.out, hN.out]
    obtain ⟨lf, hlf⟩ : ∃ lf, Hid (f.args.length = lf) := ⟨_, hidi rfl⟩
    rw [hlf.out] at hlen d4 hW0 ⊢
    clear hv hA hcf hxl
    rw [h4] at d0 hW0 ⊢
    rw [← hW0.out] at d0 d1 d2 d3 d4 y0 y1 y2 y3 y4 m0 m1 m2 m3 m4 i0 i1 i2 i3 i4
    go_enter Tryz.func113, Tryz.ntmps113
    go_wp2_with fail
    obtain ⟨hr, hB⟩ := two_allocs_end w (.int .i64 4) (.string f.name) (.int .i64 f.val) (.int .i64 f.bound) (.slice (some ⟨b, off, none⟩) lf c) (.int .i64 x.op) (.string x.name) (.int .i64 x.val) (.int .i64 x.bound) (.slice o2 x.args.length c2)
    refine bodyPost_ret (results_cell_tmp rfl _ _ (w.heap.size + 1) _ _ (0, 0) (.bool true) rfl rfl hr rfl) rfl ?_
    exact ⟨_, rfl, ⟨_, rfl, hfx, hax.kept hB.toBelow hP⟩, hB⟩
  · have hN : Hid ((if f.op = 4 then arg0F f else zeroF) = zeroF) := by unfold Hid; rw [if_neg h4]
    have h4b : (f.op == 4) = false := by simpa using h4
    have h4c : (f.op != 4) = true := by simpa using h4
    rw [hN.out, h4b]
    clear hn
    rw [← hW0.out] at d0 d1 d2 d3 d4 m0 m1 m2 m3 m4 i0 i1 i2 i3 i4
    go_enter Tryz.func113, Tryz.ntmps113
    go_wp2_with fail
    obtain ⟨hr, hB⟩ := two_allocs_end w (.int .i64 f.op) (.string f.name) (.int .i64 f.val) (.int .i64 f.bound) (.slice o f.args.length c) (.int .i64 0) (.string ⟨#[]⟩) (.int .i64 0) (.int .i64 0) (.slice none 0 0)
    refine bodyPost_ret (results_cell_tmp rfl _ _ (w.heap.size + 1) _ _ (0, 0) (.bool false) rfl rfl hr rfl) rfl ?_
    exact ⟨_, rfl, ⟨_, rfl, fits_op (by decide), .nil _ _⟩, hB⟩

end Go.Proofs.YtbnnjbfbifihaaaGreatDoor

/-
  The contract of package formula's settle, at a list of the call's own.
-/
namespace Go.Proofs.YtbnnjbfbifihaaaGreatDoor
open Go.RowKit
open Go.Sort hiding Below

set_option maxRecDepth 100000 in
set_option maxHeartbeats 1000000 in
theorem has_d (Q : Nat → Prop) (R cap k5 k9 : Nat) (es : List (Fm × Value)) (w : World) (x : Fm) (u : Value) (hR : RowF Q w R es) (hlt : R < w.heap.size) (hQ : ∀ b, Q b → b ≠ R ∧ b < w.heap.size) (hn : es.length ≤ 1000000) (hs : Asc (es.map Prod.fst)) (hu : FAt w.heap.size w u x)
    (h5 : k5 < w.heap.size) (h9 : k9 < w.heap.size) (c5 : w.cell? ⟨k5, 0, none⟩ = some (.slice (some ⟨R, 0, none⟩) es.length cap)) (c9 : w.cell? ⟨k9, 0, none⟩ = some (.func (.func 19) #[] #[])) :
    Calls Tryz.prog 131 #[u, .pointer (some ⟨k5, 0, none⟩), .pointer (some ⟨k9, 0, none⟩)] w fun e w' => e = .returned (.bool (memB x (es.map Prod.fst))) ∧ BelD w.heap.size w w' := by
  obtain ⟨o, c, rfl, -, hAf⟩ := hu.open
  obtain ⟨W0, hW0⟩ : ∃ W0, Hid (w.alloc (.cells #[.int .i64 x.op, .string x.name, .int .i64 x.val, .int .i64 x.bound, .slice o x.args.length c] 24) = W0) := ⟨_, hidi rfl⟩
  have hB0 : BelD w.heap.size w W0 := by rw [← hW0.out]; exact belD_box _ _
  have hbx : Cells5 W0 w.heap.size 0 (.int .i64 x.op) (.string x.name) (.int .i64 x.val) (.int .i64 x.bound) (.slice o x.args.length c) := by rw [← hW0.out]; exact box5 _ _ _ _ _ _ _
  have hz0 : W0.heap.size = w.heap.size + 1 := by rw [← hW0.out]; simp
  have hcall := hidi (search_any Q R cap es W0 x _ (hR.kept hB0.toBelow hlt (fun b hb => (hQ b hb).2)) (by omega) (fun b hb => ⟨(hQ b hb).1, by have := (hQ b hb).2; omega⟩) hn hs (hu.next hB0.toBelow))
  have q5 := (hB0.toBelow.cell (p := ⟨k5, 0, none⟩) h5).trans c5
  have q9 := (hB0.toBelow.cell (p := ⟨k9, 0, none⟩) h9).trans c9
  obtain ⟨x0, x1, x2, x3, x4⟩ := hbx
  rw [Nat.zero_add] at x1 x2 x3 x4
  rw [← hW0.out] at x0 x1 x2 x3 x4 q5 q9
  go_enter Tryz.func131, Tryz.ntmps131
  go_wp2_with (go_at_call 132; rw [hW0.out]; refine hcall.out.mono ?_; rintro e w1 ⟨⟨i1, rfl⟩, hb1⟩)
  go_ret
  exact ⟨rfl, hB0.trans (hb1.mono hB0.size)⟩

theorem RowF.args {Q : Nat → Prop} {W : World} {R cap : Nat} {es : List (Fm × Value)} (h : RowF Q W R es) (hcap : es.length ≤ cap) (hm : cap ≤ 9223372036854775807) : FArgsP (fun b => Q b ∨ b = R) W (.slice (some ⟨R, 0, none⟩) es.length cap) (es.map Prod.fst) := by
  rcases Nat.eq_zero_or_pos es.length with hz | hp
  · obtain rfl := List.length_eq_zero_iff.1 hz; exact .nil _ _
  · have hl : (es.map Prod.fst).length = es.length := List.length_map _
    rw [← hl]
    refine .cons R 0 cap _ (fun k => if hk : k < es.length then es[k].2 else undef) (by omega) (.inr rfl) (by omega) hm (fun k hk => ?_) (fun k hk => ?_) (fun k hk => ?_)
    · rw [List.getElem_map]; exact (h.good _ (List.getElem_mem _)).1
    · rw [hl] at hk
      have := h.cell k hk
      simp only [List.getElem_map, hk, dif_pos, Nat.zero_add]
      exact this
    · rw [hl] at hk
      simp only [List.getElem_map, hk, dif_pos]
      exact (h.good _ (List.getElem_mem _)).2.mono fun b hb => .inl hb

theorem settle_open (w : World) (l a1 a2 a3 a4 a5 b1 b2 b3 b4 b5 : Value) : ∃ W0, Hid ((((((w.alloc (.cells #[l] 22)).alloc (.cells #[a1, a2, a3, a4, a5] 24)).alloc (.cells #[b1, b2, b3, b4, b5] 24)).alloc (.cells #[.func (.func 19) #[] #[]] 30)).alloc
      (.cells #[.func (.func 128) #[] #[.pointer (some ⟨w.heap.size + 1 + 1 + 1, 0, none⟩)]] 37)) = W0) ∧ BelD w.heap.size w W0 ∧ W0.heap.size = w.heap.size + 5 ∧
    Hid (W0.heap[w.heap.size]? = some (.cells #[l] 22 (0, 0))) ∧ Hid (Cells5 W0 (w.heap.size + 1) 0 a1 a2 a3 a4 a5) ∧ Hid (Cells5 W0 (w.heap.size + 1 + 1) 0 b1 b2 b3 b4 b5) ∧
    Hid (W0.cell? ⟨w.heap.size + 1 + 1 + 1, 0, none⟩ = some (.func (.func 19) #[] #[])) ∧ Hid (W0.cell? ⟨w.heap.size + 1 + 1 + 1 + 1, 0, none⟩ = some (.func (.func 128) #[] #[.pointer (some ⟨w.heap.size + 1 + 1 + 1, 0, none⟩)])) := by
  have h1 := belD_box w (.cells #[l] 22)
  have g1 := heap_alloc_new w (.cells #[l] 22)
  have z1 : (w.alloc (.cells #[l] 22)).heap.size = w.heap.size + 1 := by simp
  generalize w.alloc (.cells #[l] 22) = w1 at *
  have h2 := belD_box w1 (.cells #[a1, a2, a3, a4, a5] 24)
  have g2 := box5 w1 a1 a2 a3 a4 a5 24
  have z2 : (w1.alloc (.cells #[a1, a2, a3, a4, a5] 24)).heap.size = w1.heap.size + 1 := by simp
  generalize w1.alloc (.cells #[a1, a2, a3, a4, a5] 24) = w2 at *
  have h3 := belD_box w2 (.cells #[b1, b2, b3, b4, b5] 24)
  have g3 := box5 w2 b1 b2 b3 b4 b5 24
  have z3 : (w2.alloc (.cells #[b1, b2, b3, b4, b5] 24)).heap.size = w2.heap.size + 1 := by simp
  generalize w2.alloc (.cells #[b1, b2, b3, b4, b5] 24) = w3 at *
  have h4 := belD_box w3 (.cells #[.func (.func 19) #[] #[]] 30)
  have g4 := heap_alloc_new w3 (.cells #[.func (.func 19) #[] #[]] 30)
  have z4 : (w3.alloc (.cells #[.func (.func 19) #[] #[]] 30)).heap.size = w3.heap.size + 1 := by simp
  generalize w3.alloc (.cells #[.func (.func 19) #[] #[]] 30) = w4 at *
  have h5 := belD_box w4 (.cells #[.func (.func 128) #[] #[.pointer (some ⟨w.heap.size + 1 + 1 + 1, 0, none⟩)]] 37)
  have g5 := heap_alloc_new w4 (.cells #[.func (.func 128) #[] #[.pointer (some ⟨w.heap.size + 1 + 1 + 1, 0, none⟩)]] 37)
  have z5 : (w4.alloc (.cells #[.func (.func 128) #[] #[.pointer (some ⟨w.heap.size + 1 + 1 + 1, 0, none⟩)]] 37)).heap.size = w4.heap.size + 1 := by simp
  refine ⟨_, hidi rfl, h1.trans ((h2.trans ((h3.trans ((h4.trans (h5.mono (by omega))).mono (by omega))).mono (by omega))).mono (by omega)), by omega, ?_, ?_, ?_, ?_, ?_⟩
  · exact (h5.block _ (by omega)).trans ((h4.block _ (by omega)).trans ((h3.block _ (by omega)).trans ((h2.block _ (by omega)).trans g1)))
  · have e := ((g2.below h3.toBelow (by omega)).below h4.toBelow (by omega)).below h5.toBelow (by omega)
    rw [z1] at e
    exact e
  · have e := (g3.below h4.toBelow (by omega)).below h5.toBelow (by omega)
    rw [z2, z1] at e
    exact e
  · have e := (h5.toBelow.cell (p := ⟨w3.heap.size, 0, none⟩) (show w3.heap.size < w4.heap.size by omega)).trans (cell_of_row _ _ 0 _ _ _ g4)
    rw [z3, z2, z1] at e
    exact e
  · rw [show w.heap.size + 1 + 1 + 1 + 1 = w4.heap.size by omega]
    exact cell_of_row _ _ 0 _ _ _ g5

/-- what the loop of settle needs -/
structure SCtx (Q : Nat → Prop) (w : World) (R cap : Nat) (es : List (Fm × Value)) (unit zero : Fm) (X : World) : Prop where
  row : RowF Q X R es
  u : UCtx X R (w.heap.size + 1 + 1 + 1) (w.heap.size + 1 + 1 + 1 + 1) (w.heap.size + 1) unit
  z : Cells5 X (w.heap.size + 1 + 1) 0 (.int .i64 zero.op) (.string zero.name) (.int .i64 zero.val) (.int .i64 zero.bound) (.slice none 0 0)
  l : X.cell? ⟨w.heap.size, 0, none⟩ = some (.slice (some ⟨R, 0, none⟩) es.length cap)
  sv : Sv w R X
  big : w.heap.size + 5 ≤ X.heap.size
  lt : R < w.heap.size
  q : ∀ b, Q b → b ≠ R ∧ b < w.heap.size

theorem SCtx.next {Q : Nat → Prop} {w : World} {R cap : Nat} {es : List (Fm × Value)} {unit zero : Fm} {X X' : World} (h : SCtx Q w R cap es unit zero X) (hB : BelD X.heap.size X X') : SCtx Q w R cap es unit zero X' :=
  have hb := h.big
  have hl := h.lt
  ⟨h.row.kept hB.toBelow (by omega) (fun b hb' => by have := (h.q b hb').2; omega), h.u.sv (Sv.of_below hB.toBelow), h.z.below hB.toBelow (by omega), (hB.toBelow.cell (p := ⟨w.heap.size, 0, none⟩) (by show w.heap.size < _; omega)).trans h.l, h.sv.next hB.toBelow, Nat.le_trans hb hB.size, hl, h.q⟩
theorem SCtx.qX {Q : Nat → Prop} {w : World} {R cap : Nat} {es : List (Fm × Value)} {unit zero : Fm} {X : World} (h : SCtx Q w R cap es unit zero X) : ∀ b, Q b → b ≠ R ∧ b < X.heap.size :=
  fun b hb => ⟨(h.q b hb).1, by have := (h.q b hb).2; have := h.big; omega⟩

theorem one_list {P : Nat → Prop} (W : World) (f : Fm) (sl : Value) (hf : Fits f) (ha : FArgsP P (W.alloc (.cells #[.int .i64 f.op, .string f.name, .int .i64 f.val, .int .i64 f.bound, sl] 24)) sl f.args) (hP : P W.heap.size) :
    FArgsP P (W.alloc (.cells #[.int .i64 f.op, .string f.name, .int .i64 f.val, .int .i64 f.bound, sl] 24)) (.slice (some ⟨W.heap.size, 0, none⟩) 1 1) [f] := by
  have h5 := box5 W (.int .i64 f.op) (.string f.name) (.int .i64 f.val) (.int .i64 f.bound) sl 24
  have := FArgsP.cons (P := P) (w := W.alloc (.cells #[.int .i64 f.op, .string f.name, .int .i64 f.val, .int .i64 f.bound, sl] 24)) W.heap.size 0 1 [f] (fun _ => sl) (by simp) hP (by simp) (by omega)
    (fun k hk => by
      have hk0 : k = 0 := by simpa using hk
      subst hk0
      exact hf) (fun k hk => by
      have hk0 : k = 0 := by simpa using hk
      subst hk0
      exact h5) (fun k hk => by
      have hk0 : k = 0 := by simpa using hk
      subst hk0
      exact ha)
  exact this
theorem settle_zero {Q : Nat → Prop} {w : World} {R cap : Nat} {es : List (Fm × Value)} {unit zero : Fm} {X : World} (h : SCtx Q w R cap es unit zero X) (hfz : Fits zero) (hza : zero.args = []) :
    ∃ v, Ending.returned (.slice (some ⟨X.heap.size, 0, none⟩) 1 1) = .returned v ∧ FArgsP (fun b => Q b ∨ b = R ∨ (w.heap.size ≤ b ∧ b < (X.alloc (.cells #[.int .i64 zero.op, .string zero.name, .int .i64 zero.val, .int .i64 zero.bound, .slice none 0 0] 24)).heap.size)) (X.alloc (.cells #[.int .i64 zero.op, .string zero.name, .int .i64 zero.val, .int .i64 zero.bound, .slice none 0 0] 24)) v [zero] ∧
      Sv w R (X.alloc (.cells #[.int .i64 zero.op, .string zero.name, .int .i64 zero.val, .int .i64 zero.bound, .slice none 0 0] 24)) := by
  refine ⟨_, rfl, one_list X zero _ hfz (by rw [hza]; exact .nil _ _) (.inr (.inr ⟨by have := h.big; omega, by simp⟩)), h.sv.next (below_box _ _)⟩

set_option maxRecDepth 100000 in
set_option maxHeartbeats 4000000 in
theorem settle_any (Q : Nat → Prop) (R cap : Nat) (es : List (Fm × Value)) (w : World) (unit zero : Fm) (hR : RowF Q w R es) (hlt : R < w.heap.size) (hQ : ∀ b, Q b → b ≠ R ∧ b < w.heap.size) (hn : es.length ≤ 1000000) (hcap : es.length ≤ cap) (hm : cap ≤ 9223372036854775807)
    (hfu : Fits unit) (hfz : Fits zero) (hua : unit.args = []) (hza : zero.args = []) (hng : ∀ e ∈ es, e.1.op = 4 → e.1.args ≠ []) :
    Calls Tryz.prog 111 #[.slice (some ⟨R, 0, none⟩) es.length cap, .agg #[.int .i64 unit.op, .string unit.name, .int .i64 unit.val, .int .i64 unit.bound, .slice none 0 0], .agg #[.int .i64 zero.op, .string zero.name, .int .i64 zero.val, .int .i64 zero.bound, .slice none 0 0],
        .func (.func 113) #[] #[], .func (.func 19) #[] #[]] w fun e w' =>
      ∃ v, e = .returned v ∧ FArgsP (fun b => Q b ∨ b = R ∨ (w.heap.size ≤ b ∧ b < w'.heap.size)) w' v (settleF (es.map Prod.fst) unit zero) ∧ Sv w R w' := by
  go_enter Tryz.func111, Tryz.ntmps111
  obtain ⟨W0, hW0, hB0, hz0, hrow5, hc6, hc7, hc9, hc11⟩ := settle_open w (.slice (some ⟨R, 0, none⟩) es.length cap) (.int .i64 unit.op) (.string unit.name) (.int .i64 unit.val) (.int .i64 unit.bound) (.slice none 0 0) (.int .i64 zero.op) (.string zero.name) (.int .i64 zero.val) (.int .i64 zero.bound) (.slice none 0 0)
  have hsort := hidi (sort_any Q R cap es W0 (hR.kept hB0.toBelow hlt (fun b hb => (hQ b hb).2)) (by omega) (fun b hb => ⟨(hQ b hb).1, by have := (hQ b hb).2; omega⟩) hn)
  go_wp2_with fail
  rw [hW0.out]
  refine hsort.out.mono ?_
  rintro e w2 ⟨rfl, es2, hperm, hso, hR2, hS2⟩
  have hz2 := hS2.size
  have hl2 : es2.length = es.length := hperm.length_eq
  have hrow52 : Hid (w2.heap[w.heap.size]? = some (.cells #[.slice (some ⟨R, 0, none⟩) es.length cap] 22 (0, 0))) := hidi ((hS2.block _ (by omega) (by omega)).trans hrow5.out)
  have q5 := cell_of_row w2 w.heap.size 0 _ _ _ hrow52.out
  have hU0 : UCtx W0 R (w.heap.size + 1 + 1 + 1) (w.heap.size + 1 + 1 + 1 + 1) (w.heap.size + 1) unit := ⟨⟨by omega, by omega⟩, ⟨by omega, by omega⟩, ⟨by omega, by omega⟩, hc9.out, hc11.out, hc6.out, hfu, hua⟩
  have hU2 := hidi (hU0.sv hS2)
  clear hU0
  have q11 := hU2.out.c11
  have hcomp := hidi (compact_any Q R cap (w.heap.size + 1 + 1 + 1) es2 w2 hR2 (by omega) (fun b hb => ⟨(hQ b hb).1, by have := (hQ b hb).2; omega⟩) (by omega) (by omega) hU2.out.l9.1 (by omega) hU2.out.c9)
  rw [hl2] at hcomp
  go_wp2_with fail
  refine hcomp.out.mono ?_
  rintro e w3 ⟨es3, rfl, hm3, hl3, hR3, hS3⟩
  have hz3 := hS3.size
  have hrow53 : Hid (w3.heap[w.heap.size]? = some (.cells #[.slice (some ⟨R, 0, none⟩) es.length cap] 22 (0, 0))) := hidi ((hS3.block _ (by omega) (by omega)).trans hrow52.out)
  have p5 := cell_of_row w3 w.heap.size 0 _ _ _ hrow53.out
  have fr5 : w3.frozen? ⟨w.heap.size, 0, none⟩ = false := by
    have h := hrow53.out
    simp [World.frozen?, h]
  obtain ⟨W4, hW4⟩ : ∃ W4, Hid (w3.setCell ⟨w.heap.size, 0, none⟩ (.slice (some ⟨R, 0, none⟩) es3.length cap) = W4) := ⟨_, hidi rfl⟩
  have hblk4 : ∀ b, b ≠ w.heap.size → W4.heap[b]? = w3.heap[b]? := fun b hb => by rw [← hW4.out]; exact Below.heap_setCell _ _ _ _ hb
  have hz4 : W4.heap.size = w3.heap.size := by rw [← hW4.out]; simp [World.setCell]
  have hset : setF (es.map Prod.fst) = es3.map Prod.fst := by
    rw [hm3]
    have := compT_setF hso (hperm.map Prod.fst)
    rw [List.length_map, hl2] at this
    exact this.symm
  have hasc : Asc (es3.map Prod.fst) := by rw [← hset]; exact asc_setF _
  have hlen3 : es3.length ≤ es.length := by omega
  have hS03 : Sv w R w3 := ((Sv.of_below hB0.toBelow).trans hS2).trans hS3
  have hC4 : SCtx Q w R cap es3 unit zero W4 := by
    have hU3 := hU2.out.sv hS3
    have hz73 : Cells5 w3 (w.heap.size + 1 + 1) 0 (.int .i64 zero.op) (.string zero.name) (.int .i64 zero.val) (.int .i64 zero.bound) (.slice none 0 0) := by
      obtain ⟨a, b, c, d, e⟩ := hc7.out
      have hs := hS2.trans hS3
      exact ⟨hs.cell (by omega) (by omega) a, hs.cell (by omega) (by omega) b, hs.cell (by omega) (by omega) c, hs.cell (by omega) (by omega) d, hs.cell (by omega) (by omega) e⟩
    have hc : ∀ b o, b ≠ w.heap.size → W4.cell? ⟨b, o, none⟩ = w3.cell? ⟨b, o, none⟩ := fun b o hb => World.cell?_of_block (hblk4 b hb)
    refine ⟨⟨fun k hk => ?_, fun j hj => ?_, fun e he => ⟨(hR3.good e he).1, (hR3.good e he).2.same fun b hb => hblk4 b ?_⟩⟩, ⟨⟨by omega, by omega⟩, ⟨by omega, by omega⟩, ⟨by omega, by omega⟩, ?_, ?_, ?_, hfu, hua⟩, ?_, ?_, ?_, by omega, hlt, hQ⟩
    · obtain ⟨a, b, c, d, e⟩ := hR3.cell k hk
      exact ⟨(hc R _ (by omega)).trans a, (hc R _ (by omega)).trans b, (hc R _ (by omega)).trans c, (hc R _ (by omega)).trans d, (hc R _ (by omega)).trans e⟩
    · have := hR3.free j hj
      unfold World.frozen? at this ⊢
      rw [hblk4 R (by omega)]
      exact this
    · have := (hQ b hb).2; omega
    · exact (hc _ _ (by omega)).trans hU3.c9
    · exact (hc _ _ (by omega)).trans hU3.c11
    · obtain ⟨a, b, c, d, e⟩ := hU3.c6
      exact ⟨(hc _ _ (by omega)).trans a, (hc _ _ (by omega)).trans b, (hc _ _ (by omega)).trans c, (hc _ _ (by omega)).trans d, (hc _ _ (by omega)).trans e⟩
    · obtain ⟨a, b, c, d, e⟩ := hz73
      exact ⟨(hc _ _ (by omega)).trans a, (hc _ _ (by omega)).trans b, (hc _ _ (by omega)).trans c, (hc _ _ (by omega)).trans d, (hc _ _ (by omega)).trans e⟩
    · have h5 : W4.heap[w.heap.size]? = some (.cells #[.slice (some ⟨R, 0, none⟩) es3.length cap] 22 (0, 0)) := by
        rw [← hW4.out]
        simp only [World.setCell, Array.getElem?_modify, if_pos, hrow53.out, Option.map_some]
        rfl
      exact cell_of_row W4 w.heap.size 0 _ _ _ h5
    · exact ⟨by rw [← hW4.out]; exact hS03.os, by rw [← hW4.out]; exact hS03.tape, by rw [← hW4.out]; exact hS03.output, by rw [hz4]; exact hS03.size, fun k hk hn => (hblk4 k (by omega)).trans (hS03.block k hk hn)⟩
  have hng3 : Hid (∀ (k : Nat) (h : k < es3.length), es3[k].1.op = 4 → es3[k].1.args ≠ []) := hidi fun k h h4 => by
    have h1 : es3[k].1 ∈ es3.map Prod.fst := List.mem_map.2 ⟨_, List.getElem_mem h, rfl⟩
    rw [← hset, mem_setF] at h1
    obtain ⟨e, he, hee⟩ := List.mem_map.1 h1
    rw [← hee] at h4 ⊢
    exact hng e he h4
  have hCC := hidi hC4
  clear hU2 hrow52 hrow53 hR3 hR2 hS2 hS3 hcomp hsort hc6 hc7 hc9 hc11 hrow5 q5 q11 hblk4 hm3 hl3 hz3 hz2 hl2 hso hperm hR hS03 hz0 hB0
  have qq5 := hC4.l
  rw [← hW4.out] at qq5
  clear hC4
  go_wp2_with fail
  rw [hW4.out]
  obtain ⟨s, hs⟩ : ∃ s, Hid (es3.map Prod.fst = s) := ⟨_, hidi rfl⟩
  have hsl : Hid (s.length = es3.length) := by unfold Hid; rw [← hs.out, List.length_map]
  have hsget : Hid (∀ (k : Nat) (h : k < es3.length) (h' : k < s.length), s[k] = es3[k].1) := hidi fun k h h' => by simp only [← hs.out, List.getElem_map]
  have hbad : Hid ((∃ (k : Nat) (h : k < es3.length), badB s zero es3[k].1 = true) → settleF (es.map Prod.fst) unit zero = [zero]) := hidi fun ⟨k, h, hb⟩ => by
    unfold settleF
    rw [hset, hs.out, if_pos]
    rw [List.any_eq_true]
    exact ⟨_, by rw [← hs.out]; exact List.mem_map.2 ⟨_, List.getElem_mem h, rfl⟩, hb⟩
  have hgoodl : Hid ((∀ (k : Nat) (h : k < es3.length), badB s zero es3[k].1 = false) → settleF (es.map Prod.fst) unit zero = dropF unit (es3.map Prod.fst)) := hidi fun h => by
    unfold settleF
    rw [hset, hs.out, if_neg]
    · rfl
    · rw [List.any_eq_true]
      rintro ⟨x, hx, hb⟩
      rw [← hs.out] at hx
      obtain ⟨e, he, rfl⟩ := List.mem_map.1 hx
      obtain ⟨k, hk, rfl⟩ := List.getElem_of_mem he
      rw [h k hk] at hb
      cases hb
  have hascs := hidi hasc
  clear hasc hset qq5 p5 fr5 hW4 hW0
  go_loopw [27] (fun a wr => ∃ k : Nat, k ≤ es3.length ∧ a = .int .i64 (k : Int) ∧ Hid (∀ (j : Nat) (h : j < es3.length), j < k → badB s zero es3[j].1 = false) ∧ Hid (SCtx Q w R cap es3 unit zero wr)) (fun a _ => es3.length - (intOf a).toNat)
  case atStart => exact ⟨0, Nat.zero_le _, rfl, hidi fun j _ h => absurd h (by omega), hCC⟩
  case round =>
    obtain ⟨k, hk, rfl, hne, hC⟩ := hrel
    have hbig := hC.out.big
    by_cases hkl : k < es3.length
    · have hgk := hidi (hC.out.row.good _ (List.getElem_mem hkl))
      have hnk := hidi (hng3.out k hkl)
      obtain ⟨y0, y1, y2, y3, y4⟩ := hC.out.row.cell k hkl
      have hbk : Hid (badB s zero es3[k].1 = (decide (cmpF es3[k].1 zero = 0) || (es3[k].1.op == 4 && memB (arg0F es3[k].1) s))) := hidi rfl
      generalize hek : es3[k] = ek at *
      obtain ⟨x, sx⟩ := ek
      have hek := hidi hek
      dsimp only at y0 y1 y2 y3 y4 hgk hnk hbk
      obtain ⟨ox, cx, rfl⟩ := hgk.out.2.shape
      obtain ⟨X1, hX1⟩ : ∃ X1, Hid (wr.alloc (.cells #[.int .i64 x.op, .string x.name, .int .i64 x.val, .int .i64 x.bound, .slice ox x.args.length cx] 24) = X1) := ⟨_, hidi rfl⟩
      have hB1 : BelD wr.heap.size wr X1 := by rw [← hX1.out]; exact belD_box _ _
      have hz1 : X1.heap.size = wr.heap.size + 1 := by rw [← hX1.out]; simp
      have hbx1 : Hid (Cells5 X1 wr.heap.size 0 (.int .i64 x.op) (.string x.name) (.int .i64 x.val) (.int .i64 x.bound) (.slice ox x.args.length cx)) := by unfold Hid; rw [← hX1.out]; exact box5 _ _ _ _ _ _ _
      have hC1 := hidi (hC.out.next hB1)
      have hx1 : Hid (FAtP Q X1 (.agg #[.int .i64 x.op, .string x.name, .int .i64 x.val, .int .i64 x.bound, .slice ox x.args.length cx]) x) := hidi ⟨_, rfl, hgk.out.1, hgk.out.2.kept hB1.toBelow (fun b hb => (hC.out.qX b hb).2)⟩
      have hneg := hidi (negated_any Q x _ X1 hx1.out (fun b hb => (hC1.out.qX b hb).2) (fun h => hnk.out h))
      obtain ⟨x0, x1, x2, x3, x4⟩ := hbx1.out
      rw [Nat.zero_add] at x1 x2 x3 x4
      rw [← hX1.out] at x0 x1 x2 x3 x4
      go_wp2_with fail
      rw [hX1.out]
      refine hneg.out.mono ?_
      rintro e w5 ⟨r, rfl, hry, hb5⟩
      obtain ⟨oy, cy, rfl, hfy, hay⟩ := hry.open
      obtain ⟨y, hy⟩ : ∃ y, Hid ((if x.op = 4 then arg0F x else zeroF) = y) := ⟨_, hidi rfl⟩
      rw [hy.out] at hry hfy hay ⊢
      have hC5 := hidi (hC1.out.next hb5)
      obtain ⟨X2, hX2⟩ : ∃ X2, Hid (w5.alloc (.cells #[.int .i64 y.op, .string y.name, .int .i64 y.val, .int .i64 y.bound, .slice oy y.args.length cy] 24) = X2) := ⟨_, hidi rfl⟩
      have hB2 : BelD w5.heap.size w5 X2 := by rw [← hX2.out]; exact belD_box _ _
      have hz5 := hb5.size
      have hz2 : X2.heap.size = w5.heap.size + 1 := by rw [← hX2.out]; simp
      have hC2 := hidi (hC5.out.next hB2)
      have hbx2 : Hid (Cells5 X2 wr.heap.size 0 (.int .i64 x.op) (.string x.name) (.int .i64 x.val) (.int .i64 x.bound) (.slice ox x.args.length cx)) := hidi ((hbx1.out.below hb5.toBelow (by omega)).below hB2.toBelow (by omega))
      have hby2 : Hid (Cells5 X2 w5.heap.size 0 (.int .i64 y.op) (.string y.name) (.int .i64 y.val) (.int .i64 y.bound) (.slice oy y.args.length cy)) := by unfold Hid; rw [← hX2.out]; exact box5 _ _ _ _ _ _ _
      have hxX2 : FAt X2.heap.size X2 (.agg #[.int .i64 x.op, .string x.name, .int .i64 x.val, .int .i64 x.bound, .slice ox x.args.length cx]) x := ((hx1.out.kept hb5.toBelow (fun b hb => (hC1.out.qX b hb).2)).kept hB2.toBelow (fun b hb => (hC5.out.qX b hb).2)).mono fun b hb => (hC2.out.qX b hb).2
      have hsame := hidi (same_d x zero _ (fval zero (.slice none 0 0)) (w.heap.size + 1 + 1 + 1) X2 hxX2 ⟨_, rfl, hfz, by rw [hza]; exact .nil _ _⟩ hC2.out.u.l9.1 hC2.out.u.c9)
      unfold fval at hsame
      have hyX2 : Hid (FAtP Q X2 (.agg #[.int .i64 y.op, .string y.name, .int .i64 y.val, .int .i64 y.bound, .slice oy y.args.length cy]) y) := hidi (hry.kept hB2.toBelow (fun b hb => (hC5.out.qX b hb).2))
      clear x0 x1 x2 x3 x4 y0 y1 y2 y3 y4 hxX2
      obtain ⟨x0, x1, x2, x3, x4⟩ := hbx2.out
      obtain ⟨y0, y1, y2, y3, y4⟩ := hby2.out
      obtain ⟨z0, z1, z2, z3, z4⟩ := hC2.out.z
      have c11 := hC2.out.u.c11
      rw [Nat.zero_add] at x1 x2 x3 x4 y1 y2 y3 y4 z1 z2 z3 z4
      rw [← hX2.out] at x0 x1 x2 x3 x4 y0 y1 y2 y3 y4 z0 z1 z2 z3 z4 c11
      obtain ⟨b1, hb1⟩ : ∃ b1, Hid ((cmpF x zero == 0) = b1) := ⟨_, hidi rfl⟩
      obtain ⟨b2, hb2⟩ : ∃ b2, Hid ((x.op == 4) = b2) := ⟨_, hidi rfl⟩
      obtain ⟨b3, hb3⟩ : ∃ b3, Hid (memB y s = b3) := ⟨_, hidi rfl⟩
      have hBad : Hid (badB s zero x = (b1 || (b2 && b3))) := by
        unfold Hid
        rw [hbk.out, ← hb1.out, ← hb2.out, ← hb3.out]
        by_cases h4 : x.op = 4
        · rw [← hy.out, if_pos h4]
          congr 1
        · have : (x.op == 4) = false := by simpa using h4
          rw [this]
          rfl
      rw [hb1.out] at hsame
      rw [hb2.out]
      have hhas : Hid (∀ w6, BelD X2.heap.size X2 w6 → Calls Tryz.prog 131 #[.agg #[.int .i64 y.op, .string y.name, .int .i64 y.val, .int .i64 y.bound, .slice oy y.args.length cy], .pointer (some ⟨w.heap.size, 0, none⟩), .pointer (some ⟨w.heap.size + 1 + 1 + 1, 0, none⟩)] w6 fun e w' => e = .returned (.bool b3) ∧ BelD w6.heap.size w6 w') := hidi fun w6 h6 => by
        have hC6 := hC2.out.next h6
        have h := has_d Q R cap w.heap.size (w.heap.size + 1 + 1 + 1) es3 w6 y _ hC6.row (by have := hC6.big; omega) hC6.qX (by omega) hascs.out ((hyX2.out.kept h6.toBelow (fun b hb => (hC2.out.qX b hb).2)).mono fun b hb => (hC6.qX b hb).2) (by have := hC6.big; omega) hC6.u.l9.1 hC6.l hC6.u.c9
        rw [hs.out, hb3.out] at h
        exact h
      have hnext : Hid (badB s zero x = false → ∀ (j : Nat) (h : j < es3.length), j < k + 1 → badB s zero es3[j].1 = false) := hidi fun h j hj hjk => by
        rcases Nat.lt_or_ge j k with h' | h'
        · exact hne.out j hj h'
        · obtain rfl : j = k := by omega
          rw [hek.out]; exact h
      have hzero : Hid (badB s zero x = true → settleF (es.map Prod.fst) unit zero = [zero]) := hidi fun h => hbad.out ⟨k, hkl, by rw [hek.out]; exact h⟩
      cases b1
      · cases b2
        · have hN := hidi (hnext.out hBad.out)
          go_wp2_with (go_at_call 128; rw [hX2.out]; refine hsame.out.mono ?_; rintro e w6 ⟨rfl, hb6⟩; have hC6 := hidi (hC2.out.next hb6); obtain ⟨q0, q1, q2, q3, q4⟩ := hby2.out.below hb6.toBelow (by omega); rw [Nat.zero_add] at q1 q2 q3 q4)
          go_roundw
          case rel => exact ⟨k + 1, by omega, by go_num, hN, hC6⟩
          case measure => simp only [intOf]; omega
        · cases b3
          · have hN := hidi (hnext.out hBad.out)
            go_wp2_with (first | (go_at_call 128; rw [hX2.out]; refine hsame.out.mono ?_; rintro e w6 ⟨rfl, hb6⟩; have hC6 := hidi (hC2.out.next hb6); obtain ⟨q0, q1, q2, q3, q4⟩ := hby2.out.below hb6.toBelow (by omega); rw [Nat.zero_add] at q1 q2 q3 q4) | (go_at_call 131; refine (hhas.out _ hb6).mono ?_; rintro e w7 ⟨rfl, hb7⟩; have hC7 := hidi (hC6.out.next hb7); obtain ⟨t0, t1, t2, t3, t4⟩ := hC7.out.z; rw [Nat.zero_add] at t1 t2 t3 t4))
            go_roundw
            case rel => exact ⟨k + 1, by omega, by go_num, hN, hC7⟩
            case measure => simp only [intOf]; omega
          · have hN := hidi (hzero.out hBad.out)
            go_wp2_with (first | (go_at_call 128; rw [hX2.out]; refine hsame.out.mono ?_; rintro e w6 ⟨rfl, hb6⟩; have hC6 := hidi (hC2.out.next hb6); obtain ⟨q0, q1, q2, q3, q4⟩ := hby2.out.below hb6.toBelow (by omega); rw [Nat.zero_add] at q1 q2 q3 q4) | (go_at_call 131; refine (hhas.out _ hb6).mono ?_; rintro e w7 ⟨rfl, hb7⟩; have hC7 := hidi (hC6.out.next hb7); obtain ⟨t0, t1, t2, t3, t4⟩ := hC7.out.z; rw [Nat.zero_add] at t1 t2 t3 t4))
            go_ret
            rw [hN.out]
            exact settle_zero hC7.out hfz hza
      · have hN := hidi (hzero.out hBad.out)
        go_wp2_with (go_at_call 128; rw [hX2.out]; refine hsame.out.mono ?_; rintro e w6 ⟨rfl, hb6⟩; have hC6 := hidi (hC2.out.next hb6); obtain ⟨q0, q1, q2, q3, q4⟩ := hC6.out.z; rw [Nat.zero_add] at q1 q2 q3 q4)
        go_ret
        rw [hN.out]
        exact settle_zero hC6.out hfz hza
    · obtain rfl : k = es3.length := by omega
      have hN := hidi (hgoodl.out fun j h => hne.out j h h)
      have hdel := hidi (delete_any Q R cap (w.heap.size + 1 + 1 + 1) (w.heap.size + 1 + 1 + 1 + 1) (w.heap.size + 1) unit es3 wr hC.out.row (by omega) hC.out.qX (by omega) (by omega) hC.out.u)
      have c5 := hC.out.l
      go_wp2_with (go_at_call 133; refine hdel.out.mono ?_; rintro e w8 ⟨es8, rfl, hm8, hl8, hR8, hS8⟩)
      go_ret
      rw [hN.out, ← hm8]
      exact ⟨_, rfl, (hR8.args (by omega) hm).mono fun b hb => by
        rcases hb with hb | hb
        · exact .inl hb
        · exact .inr (.inl hb), hC.out.sv.trans hS8⟩

end Go.Proofs.YtbnnjbfbifihaaaGreatDoor
