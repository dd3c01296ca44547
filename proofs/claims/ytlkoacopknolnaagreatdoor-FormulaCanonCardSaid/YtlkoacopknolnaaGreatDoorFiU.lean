/-
  What FormulaDuality says, of plain formulas: the canonical form of a negation hangs on the canonical form alone, and negations turn conjunctions into disjunctions.
-/
import Derived.Test.YtlkoacopknolnaaGreatDoorFiS
namespace Go.Proofs.YtlkoacopknolnaaGreatDoor

/-- the canonical form of the negation -/
def dF (f : Fm) : Fm := canonF (formP f true)
/-- well-formed, of the operators of kernels -/
def NK (f : Fm) : Prop := nodesB f = true ∧ coreB f = true
theorem NK.arg {f g : Fm} (h : NK f) (hg : g ∈ f.args) : NK g := ⟨nodesB_arg h.1 hg, Fm.all_arg h.2 hg⟩
theorem NK.node {f : Fm} (h : NK f) : nodeB f = true := nodesB_self h.1
theorem NK.core {f : Fm} (h : NK f) : coreNodeB f = true := Fm.all_self h.2
theorem NK.ops {f : Fm} (h : NK f) : f.op = 4 ∨ plainOp f.op := by
  have := h.core
  unfold coreNodeB coreOpB btwB at this
  simp only [Bool.and_eq_true, Bool.or_eq_true, decide_eq_true_eq] at this
  unfold plainOp
  have := this.1
  omega
theorem can_dF {f : Fm} (h : NK f) : Can (dF f) := can_canonF _ (form_core h.1 true).1 (form_core h.1 true).2
theorem const_eq {f : Fm} (h : nodeB f = true) (ho : f.op = 1 ∨ f.op = 2) : f = mkOp f.op [] := by
  obtain ⟨h1, h2, h3, h4, h5, -, h7⟩ := nodeB_flds h
  have hv : fVal f.op.toNat = 0 ∧ fBound f.op.toNat = 0 ∧ fMost f.op.toNat = 0 := by rcases ho with e | e <;> rw [e] <;> exact ⟨rfl, rfl, rfl⟩
  obtain ⟨v1, v2, v3⟩ := hv
  have h0 : f.args = [] := List.eq_nil_of_length_eq_zero (by omega)
  have hn : f.name = ⟨#[]⟩ := h1 (by omega)
  exact Fm.ext rfl hn (by show f.val = 0; omega) (by show f.bound = 0; omega) h0
theorem is_args {f : Fm} (h : nodeB f = true) (ho : f.op = 3) : f.args = [] := by
  obtain ⟨-, -, -, -, -, -, h7⟩ := nodeB_flds h
  have : fMost (3 : Int).toNat = 0 := rfl
  rw [ho, this] at h7
  exact List.eq_nil_of_length_eq_zero (by omega)
theorem canon_lit {f : Fm} (h : nodeB f = true) (ho : f.op = 3) : canonF f = f := by
  rw [canon_is ho, is_args h ho]
  conv => rhs; rw [Fm.eta f, is_args h ho]
  rfl
theorem dF_is {f : Fm} (h : nodeB f = true) (ho : f.op = 3) : dF f = mkOp 4 [f] := by
  unfold dF
  rw [(form_is ho).1, canonF_eq]
  show canonN 4 ⟨#[]⟩ 0 0 [canonF f] = _
  rw [canon_lit h ho]
  rfl
theorem dF_not {f : Fm} (h : NK f) (ho : f.op = 4) : ∃ x, f.args = [x] ∧ x.op = 3 ∧ NK x ∧ dF f = x ∧ arg0F f = x := by
  obtain ⟨x, hx, h3⟩ := core_not h.node h.core ho
  have hk : NK x := h.arg (by rw [hx]; simp)
  refine ⟨x, hx, h3, hk, ?_, by unfold arg0F; rw [hx]; rfl⟩
  unfold dF
  rw [form_not ho hx]
  show canonF (formP x false) = x
  rw [(form_is h3).2, canon_lit hk.node h3]
theorem gath_dual {o : Int} (ho : gath o) : gath (fDual o.toNat) ∧ fTense o.toNat = 0 ∧ plainOp o ∧ o ≠ 3 := by
  rcases ho with rfl | rfl
  · exact ⟨.inr rfl, rfl, by unfold plainOp; omega, by omega⟩
  · exact ⟨.inl rfl, rfl, by unfold plainOp; omega, by omega⟩
theorem dF_plain {f : Fm} (h : nodeB f = true) (hp : plainOp f.op) (h3 : f.op ≠ 3) : dF f = canonN (fDual f.op.toNat) ⟨#[]⟩ (if fTense f.op.toNat = 1 then 1 - f.val else 0) 0 (f.args.map dF) := by
  unfold dF
  rw [form_neg h hp h3, canonF_eq]
  show canonN _ _ _ _ ((f.args.map fun x => formP x true).map canonF) = _
  rw [List.map_map]
  rfl
theorem dF_gath {f : Fm} (h : gath f.op) : dF f = normF (fDual f.op.toNat) (flatF (fDual f.op.toNat) (f.args.map dF)) := by
  obtain ⟨g1, -, g3, g4⟩ := gath_dual h
  have e : formP f true = .mk (fDual f.op.toNat) ⟨#[]⟩ (if fTense f.op.toNat = 1 then 1 - f.val else 0) 0 (f.args.map fun x => formP x true) := by
    rw [formP_eq]
    rcases h with e | e <;> rw [e] <;> simp only [formN, mkOp, mkLate] <;> simp [formPL_same, dualN, fDual, fTense, formRow, formsRows]
  unfold dF
  rw [e, canon_gath0 g1, List.map_map]
  rfl
where
  canon_gath0 {o : Int} (ho : gath o) {n : ByteArray} {v b : Int} {l : List Fm} : canonF (.mk o n v b l) = normF o (flatF o (l.map canonF)) := by
    rw [canonF_eq]
    unfold canonN
    rw [if_pos (show (Fm.mk o n v b l).op = 5 ∨ (Fm.mk o n v b l).op = 6 from ho)]
    rfl
theorem dF_true : dF (mkOp 1 []) = mkOp 2 [] := by
  rw [dF_plain (Fm.all_self nodes_true) (.inl rfl) (by decide)]; rfl
theorem dF_false : dF (mkOp 2 []) = mkOp 1 [] := by
  rw [dF_plain (Fm.all_self nodes_false) (.inr (.inl rfl)) (by decide)]; rfl
theorem dF_unit {o : Int} (ho : gath o) : dF (unitF o) = unitF (fDual o.toNat) := by
  rcases ho with rfl | rfl
  · exact dF_true
  · exact dF_false
theorem dF_null {o : Int} (ho : gath o) : dF (nullF o) = nullF (fDual o.toNat) := by
  rcases ho with rfl | rfl
  · exact dF_false
  · exact dF_true
theorem mem_flat_of {o : Int} {l : List Fm} {x : Fm} (h : x ∈ l) (ho : x.op ≠ o) : x ∈ flatF o l := mem_flatF.2 ⟨x, h, .inr ⟨ho, rfl⟩⟩

/-- negated canonical forms of a list: whether it is made flat before or behind does not matter -/
theorem dual_flat {o : Int} (ho : gath o) : ∀ (cs t : List Fm), (∀ c ∈ cs, NK c) → (∀ x ∈ t, Can x) →
    normF (fDual o.toNat) (flatF (fDual o.toNat) (cs.map dF) ++ t) = normF (fDual o.toNat) (flatF (fDual o.toNat) ((flatF o cs).map dF) ++ t)
  | [], _, _, _ => rfl
  | c :: cs, t, hc, ht => by
    have hd := (gath_dual ho).1
    have hN := hc c (by simp)
    have hcs : ∀ x ∈ cs, NK x := fun x hx => hc x (by simp [hx])
    have hcan : ∀ {l : List Fm}, (∀ x ∈ l, NK x) → ∀ x ∈ flatF (fDual o.toNat) (l.map dF), Can x ∧ x.op ≠ fDual o.toNat := fun hl => flatF_can hd fun z hz => by
      obtain ⟨q, hq, rfl⟩ := List.mem_map.1 hz
      exact can_dF (hl q hq)
    have swap : ∀ (a b t : List Fm), normF (fDual o.toNat) (a ++ b ++ t) = normF (fDual o.toNat) (b ++ (a ++ t)) := fun a b t => norm_same fun x => by
      simp only [List.mem_append]; constructor <;> intro h <;> (first | (rcases h with (h | h) | h <;> simp [h]) | (rcases h with h | h | h <;> simp [h]))
    rw [List.map_cons, flatF_cons, flatF_cons o c cs, List.map_append]
    have happ : ∀ a b : List Fm, flatF (fDual o.toNat) (a ++ b) = flatF (fDual o.toNat) a ++ flatF (fDual o.toNat) b := fun a b => by simp [flatF]
    rw [happ]
    by_cases e : c.op = o
    · have h1 : dF c = normF (fDual o.toNat) (flatF (fDual o.toNat) (c.args.map dF)) := by
        have := dF_gath (f := c) (by rw [e]; exact ho)
        rw [e] at this
        exact this
      have hS := hcan (l := c.args) fun x hx => hN.arg hx
      rw [flat1_is e, h1, List.append_assoc]
      rw [norm_norm hd hS fun x hx => (List.mem_append.1 hx).elim (fun h => (hcan hcs x h).1) (ht x)]
      rw [← List.append_assoc, swap, swap]
      exact dual_flat ho cs _ hcs fun x hx => (List.mem_append.1 hx).elim (fun h => (hS x h).1) (ht x)
    · rw [flat1_not e]
      have h1 : flatF (fDual o.toNat) ([c].map dF) = flat1 (fDual o.toNat) (dF c) := by
        simp only [List.map_cons, List.map_nil, flatF_cons, flatF_nil, List.append_nil]
      rw [h1, swap, swap]
      exact dual_flat ho cs _ hcs fun x hx => (List.mem_append.1 hx).elim (fun h => (flat1_can hd (can_dF hN) x h).1) (ht x)

/-- the negation of a normal form -/
theorem dual_norm {o : Int} (ho : gath o) {s : List Fm} (hs : ∀ x ∈ s, NK x ∧ Can x ∧ x.op ≠ o) : dF (normF o s) = normF (fDual o.toNat) (flatF (fDual o.toNat) (s.map dF)) := by
  have hd := (gath_dual ho).1
  have hnd := null_op hd
  have hud := unit_op hd
  have hcan : ∀ {l : List Fm}, (∀ x ∈ l, NK x) → ∀ x ∈ flatF (fDual o.toNat) (l.map dF), Can x ∧ x.op ≠ fDual o.toNat := fun hl => flatF_can hd fun z hz => by
    obtain ⟨q, hq, rfl⟩ := List.mem_map.1 hz
    exact can_dF (hl q hq)
  have h34 : (3 : Int) ≠ fDual o.toNat ∧ (4 : Int) ≠ fDual o.toNat := by rcases ho with rfl | rfl <;> decide
  by_cases hb : badL s (nullF o)
  · have hb2 : badL (flatF (fDual o.toNat) (s.map dF)) (nullF (fDual o.toNat)) := by
      obtain ⟨x, hx, h1 | ⟨h4, ha⟩⟩ := hb
      · refine ⟨nullF (fDual o.toNat), mem_flat_of ?_ hnd.1, .inl rfl⟩
        rw [← dF_null ho, ← h1]
        exact List.mem_map.2 ⟨x, hx, rfl⟩
      · obtain ⟨y, -, hy3, hyk, hy, hya⟩ := dF_not (hs x hx).1 h4
        rw [hya] at ha
        have hyn := dF_is hyk.node hy3
        refine ⟨mkOp 4 [y], mem_flat_of (List.mem_map.2 ⟨y, ha, hyn⟩) h34.2, .inr ⟨rfl, ?_⟩⟩
        show y ∈ _
        exact mem_flat_of (List.mem_map.2 ⟨x, hx, hy⟩) (by rw [hy3]; exact h34.1)
    unfold normF
    rw [settle_bad hb, settle_bad hb2]
    exact dF_null ho
  · have hmem : ∀ x, x ∈ settleF s (unitF o) (nullF o) ↔ x ∈ s ∧ x ≠ unitF o := fun _ => mem_settle_good hb
    have hr : ∀ x ∈ settleF s (unitF o) (nullF o), NK x := fun x hx => (hs x ((hmem x).1 hx).1).1
    have e1 : normF (fDual o.toNat) (flatF (fDual o.toNat) (s.map dF)) = normF (fDual o.toNat) (flatF (fDual o.toNat) ((settleF s (unitF o) (nullF o)).map dF)) := by
      refine norm_units hd (fun x hx => (hcan (fun y hy => (hs y hy).1) x hx).1) (fun x hx => (hcan hr x hx).1) fun x hx => ?_
      simp only [mem_flatF, List.mem_map]
      constructor
      · rintro ⟨F, ⟨y, hy, rfl⟩, h⟩
        refine ⟨dF y, ⟨y, (hmem y).2 ⟨hy, ?_⟩, rfl⟩, h⟩
        rintro rfl
        rw [dF_unit ho] at h
        rcases h with ⟨h, -⟩ | ⟨-, h⟩
        · exact hud.1 h
        · exact hx h
      · rintro ⟨F, ⟨y, hy, rfl⟩, h⟩
        exact ⟨dF y, ⟨y, ((hmem y).1 hy).1, rfl⟩, h⟩
    rw [e1]
    unfold normF
    generalize settleF s (unitF o) (nullF o) = r at hr
    match r, hr with
    | [], _ =>
      show dF (unitF o) = _
      rw [dF_unit ho]
      rcases ho with rfl | rfl <;> rfl
    | [x], hr =>
      show dF x = normF (fDual o.toNat) (flatF (fDual o.toNat) ([x].map dF))
      simp only [List.map_cons, List.map_nil, flatF_cons, flatF_nil, List.append_nil]
      exact (norm_one hd (can_dF (hr x (by simp)))).symm
    | x :: y :: r, _ => exact dF_gath (f := mkOp o (x :: y :: r)) ho

theorem NK.canon {f : Fm} (h : NK f) (hn : f.nodes ≤ 1000000) : NK (canonF f) :=
  ⟨weak_nodes _ (Nat.le_trans (nodes_canonF f h.1) hn) (canon_weak h.1), canon_core h.1 h.2⟩
theorem const_dF {f : Fm} (h : NK f) (hc : constF f = true) : constF (dF f) = true := by
  have ho : f.op = 1 ∨ f.op = 2 := by unfold constF at hc; simpa using hc
  rw [const_eq h.node ho]
  rcases ho with e | e <;> rw [e]
  · rw [dF_true]; rfl
  · rw [dF_false]; rfl
theorem op_dF {f : Fm} (h : NK f) : (f.op = 1 → (dF f).op = 2) ∧ (f.op = 2 → (dF f).op = 1) := by
  constructor
  · intro e
    rw [const_eq h.node (.inl e), e, dF_true]; rfl
  · intro e
    rw [const_eq h.node (.inr e), e, dF_false]; rfl
/-- the negation's canonical form hangs on the canonical form alone -/
theorem dual_canon (f : Fm) : NK f → f.nodes ≤ 1000000 → dF (canonF f) = dF f := by
  induction f using Fm.ind with
  | h f ih =>
    intro h hn
    have hsz : ∀ x ∈ f.args, x.nodes ≤ 1000000 := fun x hx => by
      obtain ⟨k, hk, rfl⟩ := List.mem_iff_getElem.1 hx
      have h1 := Fm.nodes_get hk
      rw [Fm.nodes_eq f] at hn
      omega
    have hih : ∀ x ∈ f.args, dF (canonF x) = dF x := fun x hx => ih x hx (h.arg hx) (hsz x hx)
    have hck : ∀ x ∈ f.args, NK (canonF x) := fun x hx => (h.arg hx).canon (hsz x hx)
    have hcc : ∀ x ∈ f.args, Can (canonF x) := fun x hx => can_canonF x (h.arg hx).1 (h.arg hx).2
    have hmap : (f.args.map canonF).map dF = f.args.map dF := by
      rw [List.map_map]
      exact List.map_congr_left fun x hx => hih x hx
    have hnb := h.node
    rcases h.ops with h4 | hp
    · obtain ⟨x, hx, h3, hk, -, -⟩ := dF_not h h4
      have e : canonF f = f := by
        rw [canonF_eq, hx, h4]
        show canonN 4 f.name f.val f.bound [canonF x] = f
        rw [canon_lit hk.node h3]
        show Fm.mk 4 f.name f.val f.bound [x] = f
        conv => rhs; rw [Fm.eta f, hx, h4]
      rw [e]
    · by_cases h3 : f.op = 3
      · rw [canon_lit hnb h3]
      · by_cases ho : gath f.op
        · have hd := (gath_dual ho).1
          have e0 : canonF f = normF f.op (flatF f.op (f.args.map canonF)) := by
            conv => lhs; rw [Fm.eta f]
            exact dF_gath.canon_gath0 ho
          have hmk : ∀ c ∈ f.args.map canonF, NK c ∧ Can c := fun c hc => by
            obtain ⟨x, hx, rfl⟩ := List.mem_map.1 hc
            exact ⟨hck x hx, hcc x hx⟩
          rw [e0, dual_norm ho fun x hx => ⟨?_, flatF_can ho (fun c hc => (hmk c hc).2) x hx⟩]
          · have h1 := dual_flat ho (f.args.map canonF) [] (fun c hc => (hmk c hc).1) (fun x hx => by cases hx)
            rw [List.append_nil, List.append_nil] at h1
            rw [← h1, hmap, dF_gath ho]
          · obtain ⟨c, hc, ⟨-, h5⟩ | ⟨-, rfl⟩⟩ := mem_flatF.1 hx
            · exact (hmk c hc).1.arg h5
            · exact (hmk x hc).1
        · -- the others: what the canonical form takes away is what its negation takes away
          have hself : dF (.mk f.op f.name f.val f.bound (f.args.map canonF)) = dF f := by
            rw [dF_plain hnb hp h3]
            have := dF_plain (f := .mk f.op f.name f.val f.bound (f.args.map canonF)) (by rw [nodeB_map (by rw [List.length_map])]; exact hnb) hp h3
            rw [this]
            show canonN (fDual f.op.toNat) ⟨#[]⟩ (if fTense f.op.toNat = 1 then 1 - f.val else 0) 0 ((f.args.map canonF).map dF) = _
            rw [hmap]
          rw [canonF_eq]
          unfold canonN
          rw [if_neg (show ¬ (f.op = 5 ∨ f.op = 6) from ho)]
          split
          · next h8 =>
            split
            · next hc =>
              obtain ⟨x, hx⟩ := args_one_of hnb (by rw [h8]; rfl) (by rw [h8]; rfl)
              have hxm : x ∈ f.args := by rw [hx]; simp
              rw [hx] at hc ⊢
              have hc' : constF (canonF x) = true := hc
              show dF (canonF x) = dF f
              have h1 := const_dF (hck x hxm) hc'
              rw [hih x hxm] at h1 ⊢
              rw [dF_plain hnb hp h3, h8, hx]
              show dF x = canonN 8 ⟨#[]⟩ _ 0 [dF x]
              unfold canonN
              rw [if_neg (by decide), if_pos rfl, if_pos (by exact h1)]
              rfl
            · exact hself
          · split
            · next h9 =>
              split
              · next hc =>
                obtain ⟨x, y, hx⟩ := args_two_of hnb (by rw [h9]; rfl) (by rw [h9]; rfl)
                have hxm : x ∈ f.args := by rw [hx]; simp
                have hym : y ∈ f.args := by rw [hx]; simp
                rw [hx] at hc ⊢
                have hc' : constF (canonF y) = true ∨ (canonF x).op = 2 := hc
                show dF (canonF y) = dF f
                have h1 : constF (dF y) = true ∨ (dF x).op = 1 := hc'.imp (fun e => by rw [← hih y hym]; exact const_dF (hck y hym) e) (fun e => by rw [← hih x hxm]; exact (op_dF (hck x hxm)).2 e)
                rw [hih y hym, dF_plain hnb hp h3, h9, hx]
                show dF y = canonN 10 ⟨#[]⟩ _ 0 [dF x, dF y]
                unfold canonN
                rw [if_neg (by decide), if_neg (by decide), if_neg (by decide), if_pos rfl, if_pos (by exact h1)]
                rfl
              · exact hself
            · split
              · next h9 =>
                split
                · next hc =>
                  obtain ⟨x, y, hx⟩ := args_two_of hnb (by rw [h9]; rfl) (by rw [h9]; rfl)
                  have hxm : x ∈ f.args := by rw [hx]; simp
                  have hym : y ∈ f.args := by rw [hx]; simp
                  rw [hx] at hc ⊢
                  have hc' : constF (canonF y) = true ∨ (canonF x).op = 1 := hc
                  show dF (canonF y) = dF f
                  have h1 : constF (dF y) = true ∨ (dF x).op = 2 := hc'.imp (fun e => by rw [← hih y hym]; exact const_dF (hck y hym) e) (fun e => by rw [← hih x hxm]; exact (op_dF (hck x hxm)).1 e)
                  rw [hih y hym, dF_plain hnb hp h3, h9, hx]
                  show dF y = canonN 9 ⟨#[]⟩ _ 0 [dF x, dF y]
                  unfold canonN
                  rw [if_neg (by decide), if_neg (by decide), if_pos rfl, if_pos (by exact h1)]
                  rfl
                · exact hself
              · exact hself

end Go.Proofs.YtlkoacopknolnaaGreatDoor
