/-
  Contracts that FormulaOrder stands on, part Gk.
-/
import Derived.Deep.RegionLaw
import Derived.Test.YtmklekdkaekcbaaGreatDoorGi
import Derived.Test.YtmklekdkaekcbaaGreatDoorGj

/-
  A region that draws its order of evaluation, by facts of the operations' values: at formulas; where the region lays one block and stores into it last.
-/
namespace Go.Proofs.YtmklekdkaekcbaaGreatDoor
open Go.RowKit

/-- the values of the operations' slots, one of them turned -/
def upd (x : Nat → Value) (i : Nat) (v : Value) : Nat → Value := fun j => if j = i then v else x j

theorem wpOp_of_list' {P : Program} {ops : Array Oper} {Q : Exit → Act → World → Prop} {K : Act → World → Prop} {i : Nat} {o : Oper} {a : Act} {w : World} (ho : ops[i]? = some o)
    (h : wpList P ops (Exit.then K Q) [o] a w) : wpOp P ops Q i K a w := by
  have up : ∀ r, o.upon P a K (Exit.then K Q) r → o.upon P a K Q r := by
    intro r h
    cases r with
    | ok x w' => cases x <;> exact h
    | halt x w' => cases x <;> exact h
  unfold wpOp
  rw [ho]
  simp only [wpList] at h
  by_cases hw : Region.wanted o (yielded ops a.tmps) = true
  · simp only [hw, if_true] at h ⊢
    first
      | exact .inl (up _ h)
      | exact h.imp (fun h => up _ h) id
  · simp only [hw, if_false, Bool.false_eq_true] at h ⊢
    exact h

theorem ready_spec {md : Region.Mode} {ops : Array Oper} {listed : Array Bool} {i : Nat} (h : i ∈ Region.ready md ops listed) :
    i < ops.size ∧ listed.getD i true = false ∧ ∀ o, ops[i]? = some o → ∀ e ∈ o.after, Region.binds md e = true → listed.getD e.on false = true := by
  unfold Region.ready at h
  simp only [List.mem_filter, List.mem_range, Bool.and_eq_true, Bool.not_eq_true'] at h
  obtain ⟨h1, h2, h3⟩ := h
  refine ⟨h1, h2, fun o ho e he hb => ?_⟩
  rw [ho] at h3
  simp only [Option.map_some, Option.getD_some, Array.all_eq_true'] at h3
  have := h3 e he
  rw [hb] at this
  simpa using this

/-- every operation comes behind those that it waits for -/
def ordered (ops : Array Oper) : Bool := (List.range ops.size).all fun i => ((ops[i]?).map fun o => o.after.all fun e => decide (e.on < i)).getD true

theorem ordered_spec {ops : Array Oper} (h : ordered ops = true) {i : Nat} {o : Oper} (ho : ops[i]? = some o) : ∀ e ∈ o.after, e.on < i := by
  intro e he
  unfold ordered at h
  rw [List.all_eq_true] at h
  have hi : i < ops.size := (Array.getElem?_eq_some_iff.1 ho).1
  have := h i (List.mem_range.2 hi)
  rw [ho] at this
  simp only [Option.map_some, Option.getD_some, Array.all_eq_true'] at this
  simpa using this e he

theorem ready_none {md : Region.Mode} {ops : Array Oper} {listed : Array Bool} (ho : ordered ops = true) (hsz : listed.size = ops.size) (h : Region.ready md ops listed = []) : ∀ i, i < ops.size → listed.getD i false = true := by
  intro i
  induction i using Nat.strongRecOn with
  | _ i ih =>
    intro hi
    have hi' : i < listed.size := by omega
    cases hb : listed.getD i false with
    | true => rfl
    | false =>
      exfalso
      have hm : i ∈ Region.ready md ops listed := by
        unfold Region.ready
        simp only [List.mem_filter, List.mem_range, Bool.and_eq_true, Bool.not_eq_true']
        refine ⟨hi, ?_, ?_⟩
        · simp only [Array.getD_eq_getD_getElem?, Array.getElem?_eq_getElem hi', Option.getD_some] at hb ⊢
          exact hb
        · rw [Array.getElem?_eq_getElem hi]
          simp only [Option.map_some, Option.getD_some, Array.all_eq_true']
          intro e he
          have hlt := ordered_spec ho (Array.getElem?_eq_getElem hi) e he
          rw [ih e.on hlt (by omega)]
          simp
      rw [h] at hm
      cases hm

theorem count_less : ∀ (l : List Bool) (i : Nat), l[i]? = some false → (l.set i true).count false < l.count false := by
  intro l
  induction l with
  | nil => intro i h; simp at h
  | cons b l ih =>
    intro i h
    cases i with
    | zero => simp at h; subst h; simp
    | succ i =>
      simp only [List.getElem?_cons_succ] at h
      have := ih i h
      simp only [List.set_cons_succ, List.count_cons]
      omega

/-- what an operation waits for -/
def depsOf (ops : Array Oper) (i : Nat) : List Nat := match ops[i]? with
  | some o => (o.after.toList.filter (Region.binds .any)).map (·.on)
  | none => []

theorem depsOf_spec {ops : Array Oper} {i j : Nat} (h : (depsOf ops i).contains j = true) : ∃ o e, ops[i]? = some o ∧ e ∈ o.after ∧ Region.binds .any e = true ∧ e.on = j := by
  unfold depsOf at h
  cases ho : ops[i]? with
  | none => rw [ho] at h; simp at h
  | some o =>
    rw [ho] at h
    simp only [List.contains_eq_mem, decide_eq_true_eq, List.mem_map, List.mem_filter] at h
    obtain ⟨e, ⟨h1, h2⟩, h3⟩ := h
    exact ⟨o, e, rfl, by simpa using h1, h2, h3⟩

/-- one more operation has been done -/
def lst (L : Nat → Bool) (i : Nat) : Nat → Bool := fun j => if j = i then true else L j

theorem getD_lst (listed : Array Bool) (i : Nat) (hi : i < listed.size) : (fun j => (listed.setIfInBounds i true).getD j false) = lst (fun j => listed.getD j false) i := by
  funext j
  unfold lst
  simp only [Array.getD_eq_getD_getElem?]
  by_cases h : j = i
  · subst h; simp [hi]
  · rw [Array.getElem?_setIfInBounds_ne (Ne.symm h), if_neg h]

theorem wp_region_inv {P : Program} {ops : Array Oper} {Q : Exit → Act → World → Prop} {id : Nat} {w : World} (hm : P.follows .mixedOrders = true) (ho : ordered ops = true) (I : (Nat → Bool) → (Nat → Value) → World → Prop) (fr : (Nat → Value) → Act) (x0 : Nat → Value)
    (h0 : I (fun _ => false) x0 { w with drawn := w.drawn + 1 })
    (hstep : ∀ L i x w K, i < ops.size → L i = false → (∀ j, (depsOf ops i).contains j = true → L j = true) → I L x w → (∀ v w', I (lst L i) (upd x i v) w' → K (fr (upd x i v)) w') → wpOp P ops Q i K (fr x) w)
    (hend : ∀ L x w, (∀ i, i < ops.size → L i = true) → I L x w → Q .normal (fr x) w) : (Code.region id ops true).wp P Q (fr x0) w := by
  have key : ∀ fuel listed x w, listed.size = ops.size → listed.toList.count false ≤ fuel → I (fun j => listed.getD j false) x w → wpAny P .any ops Q fuel listed (fr x) w := by
    intro fuel
    induction fuel with
    | zero =>
      intro listed x w hsz hc hI
      have hr : Region.ready .any ops listed = [] := by
        refine List.eq_nil_iff_forall_not_mem.2 fun i hi => ?_
        obtain ⟨h1, h2, -⟩ := ready_spec hi
        have hi' : i < listed.size := by omega
        simp only [Array.getD_eq_getD_getElem?, Array.getElem?_eq_getElem hi', Option.getD_some] at h2
        have := count_less listed.toList i (by simp [hi', h2])
        omega
      exact ⟨hr, hend _ x w (ready_none ho hsz hr) hI⟩
    | succ f ih =>
      intro listed x w hsz hc hI
      refine ⟨fun hr => hend _ x w (ready_none ho hsz hr) hI, fun i hi => ?_⟩
      obtain ⟨h1, h2, h3⟩ := ready_spec hi
      have hi' : i < listed.size := by omega
      simp only [Array.getD_eq_getD_getElem?, Array.getElem?_eq_getElem hi', Option.getD_some] at h2
      refine hstep _ i x w _ h1 (by simp [Array.getD_eq_getD_getElem?, hi', h2]) (fun j hj => ?_) hI fun v w' hv => ?_
      · obtain ⟨o, e, hoi, he, hb, rfl⟩ := depsOf_spec hj
        exact h3 o hoi e he hb
      · refine ih _ _ _ (by simpa using hsz) ?_ (by rw [getD_lst _ _ hi']; exact hv)
        have := count_less listed.toList i (by simp [hi', h2])
        simp only [Array.toList_setIfInBounds]
        omega
  refine wp_region_any hm ?_
  refine key ops.size (Array.replicate ops.size false) x0 _ (by simp) (Nat.le_trans List.count_le_length (by simp)) ?_
  have : (fun j => (Array.replicate ops.size false).getD j false) = fun _ => false := by
    funext j
    simp only [Array.getD_eq_getD_getElem?, Array.getElem?_replicate]
    split <;> rfl
  rw [this]
  exact h0

/-- the operations of a region, by its number -/
def findRegion (id : Nat) : Code → Option (Array Oper)
  | .region i ops _ => if i == id then some ops else none
  | .seq a b => match findRegion id a with
    | some x => some x
    | none => findRegion id b
  | .cond _ a b => match findRegion id a with
    | some x => some x
    | none => findRegion id b
  | .block _ a => findRegion id a
  | .loop a => findRegion id a
  | .rangeFunc _ _ a b => match findRegion id a with
    | some x => some x
    | none => findRegion id b
  | .scope a => findRegion id a
  | _ => none
def opsAt (f : Func) (id : Nat) : Array Oper := match f.body with
  | some c => (findRegion id c).getD #[]
  | none => #[]


/-- what may be known of a value in a world: what it leads to lies in blocks that Ok allows -/
inductive Fq where
  | free
  | boolF (b : Bool)
  | intF (n : Int)
  | fmF (f : Fm)
  | fmsF (l : List Fm)
  | strsF (l : List ByteArray)
  | sigsF (l : List Sig)
  | valF (u : Value)

def Fq.holds (Ok : Nat → Prop) : Fq → Value → World → Prop
  | .free, _, _ => True
  | .boolF b, v, _ => v = .bool b
  | .intF n, v, _ => v = .int .i64 n
  | .fmF f, v, w => FAtP (fun b => b < w.heap.size ∧ Ok b) w v f
  | .fmsF l, v, w => FArgsP (fun b => b < w.heap.size ∧ Ok b) w v l
  | .strsF l, v, w => StrsP (fun b => b < w.heap.size ∧ Ok b) w v l
  | .sigsF l, v, w => Sigs w.heap.size w v l
  | .valF u, v, _ => v = u

theorem Fq.stable (f : Fq) {Ok Ok' : Nat → Prop} {v : Value} {w w' : World} (h : f.holds Ok v w) (hB : Below w.heap.size w w') (hO : ∀ b, b < w.heap.size → Ok b → Ok' b) : f.holds Ok' v w' := by
  have hs := hB.size
  cases f with
  | free => trivial
  | boolF b => exact h
  | intF n => exact h
  | fmF f => exact (FAtP.kept h hB (fun b hb => hb.1)).mono fun b hb => ⟨by omega, hO b hb.1 hb.2⟩
  | fmsF l => exact (FArgsP.kept h hB (fun b hb => hb.1)).mono fun b hb => ⟨by omega, hO b hb.1 hb.2⟩
  | sigsF l => exact (Sigs.below h hB (Nat.le_refl _)).mono hs
  | valF u => exact h
  | strsF l => exact (StrsP.kept h hB (fun b hb => hb.1)).mono fun b hb => ⟨by omega, hO b hb.1 hb.2⟩

/-- what a contract hands back -/
theorem fm_got {Ok : Nat → Prop} {W W2 : World} {r : Value} {f : Fm} (h : FAtP (NewP (fun b => b < W.heap.size ∧ Ok b) W W2) W2 r f) (hB : Below W.heap.size W W2) (hO : ∀ b, W.heap.size ≤ b → Ok b) : (Fq.fmF f).holds Ok r W2 :=
  FAtP.mono h fun b hb => by
    have := hB.size
    rcases hb with ⟨h1, h2⟩ | ⟨h1, h2⟩
    · exact ⟨by omega, h2⟩
    · exact ⟨h2, hO b h1⟩
theorem fm_at {Ok : Nat → Prop} {W : World} {v : Value} {f : Fm} (h : (Fq.fmF f).holds Ok v W) : FAt W.heap.size W v f := FAtP.mono h fun _ hb => hb.1

/-- a region of facts alone -/
theorem wp_region_fq {P : Program} {ops : Array Oper} {Q : Exit → Act → World → Prop} {id : Nat} {w : World} (hm : P.follows .mixedOrders = true) (ho : ordered ops = true) (fs : Nat → Fq) (fr : (Nat → Value) → Act) (x0 : Nat → Value)
    (hstep : ∀ i x W K, i < ops.size → Below w.heap.size w W → (∀ j, (depsOf ops i).contains j = true → (fs j).holds (fun _ => True) (x j) W) → (∀ v w', (fs i).holds (fun _ => True) v w' → Below W.heap.size W w' → K (fr (upd x i v)) w') → wpOp P ops Q i K (fr x) W)
    (hend : ∀ x W, Below w.heap.size w W → (∀ i, i < ops.size → (fs i).holds (fun _ => True) (x i) W) → Q .normal (fr x) W) : (Code.region id ops true).wp P Q (fr x0) w := by
  refine wp_region_inv hm ho (fun L x W => Below w.heap.size w W ∧ ∀ i, L i = true → (fs i).holds (fun _ => True) (x i) W) fr x0 ⟨(Below.refl _ _).drew, fun i h => by cases h⟩ ?_ fun L x W hall hI => hend x W hI.1 fun i hi => hI.2 i (hall i hi)
  intro L i x W K hi hL hd hI hK
  refine hstep i x W K hi hI.1 (fun j hj => hI.2 j (hd j hj)) fun v w' hv hB => hK v w' ⟨hI.1.trans (hB.mono hI.1.size), fun j hj => ?_⟩
  unfold upd
  by_cases hji : j = i
  · subst hji
    rw [if_pos rfl]
    exact hv
  · rw [if_neg hji]
    refine Fq.stable _ (hI.2 j ?_) hB (fun _ _ h => h)
    unfold lst at hj
    rwa [if_neg hji] at hj

/-- all that must be done before some operations -/
def reachL (ops : Array Oper) : Nat → List Nat → List Nat
  | 0, l => l
  | n + 1, l => reachL ops n (l ++ l.flatMap (depsOf ops)).eraseDups
theorem reachL_done {ops : Array Oper} {L : Nat → Bool} (hcl : ∀ i, L i = true → ∀ j, (depsOf ops i).contains j = true → L j = true) : ∀ (n : Nat) (l : List Nat), (∀ j ∈ l, L j = true) → ∀ j ∈ reachL ops n l, L j = true
  | 0, l, h => h
  | n + 1, l, h => by
    refine reachL_done hcl n _ fun j hj => ?_
    rw [List.mem_eraseDups, List.mem_append, List.mem_flatMap] at hj
    rcases hj with hj | ⟨i, hi, hj⟩
    · exact h j hj
    · exact hcl i (h i hi) j (by simpa using hj)
def lastB (ops : Array Oper) (st : Nat) : Bool := (List.range ops.size).all fun i => i == st || (reachL ops 8 (depsOf ops st)).contains i

/-- a region that lays one block for a formula and stores into it last -/
theorem wp_region_box {P : Program} {ops : Array Oper} {Q : Exit → Act → World → Prop} {id : Nat} {w : World} (hm : P.follows .mixedOrders = true) (ho : ordered ops = true) (fs : Nat → Fq) (fr : (Nat → Value) → Act) (x0 : Nat → Value) (al st src : Nat) (J : Fm)
    (hlast : lastB ops st = true) (hne : al ≠ st) (hsa : src ≠ al) (hss : src ≠ st) (has : al < ops.size) (hsst : st < ops.size) (hsrc : src < ops.size) (hfs : fs src = .fmF J)
    (hstep : ∀ (Ok : Nat → Prop) i x W K, i < ops.size → i ≠ al → i ≠ st → (∀ b, W.heap.size ≤ b → Ok b) → (∀ b, b < w.heap.size → Ok b) → Below w.heap.size w W → (∀ j, j ≠ al → j ≠ st → (depsOf ops i).contains j = true → (fs j).holds Ok (x j) W) → (∀ v w', (fs i).holds Ok v w' → Below W.heap.size W w' → K (fr (upd x i v)) w') → wpOp P ops Q i K (fr x) W)
    (hal : ∀ x W K, K (fr (upd x al (.pointer (some ⟨W.heap.size, 0, none⟩)))) (W.alloc (.cells #[.int .i64 0, .string ⟨#[]⟩, .int .i64 0, .int .i64 0, .slice none 0 0] 24)) → wpOp P ops Q al K (fr x) W)
    (hst : ∀ x W K k o c, x al = .pointer (some ⟨k, 0, none⟩) → Res5 W k → x src = .agg #[.int .i64 J.op, .string J.name, .int .i64 J.val, .int .i64 J.bound, .slice o J.args.length c] →
      K (fr (upd x st undef)) (((((W.setCell ⟨k, 0, none⟩ (.int .i64 J.op)).setCell ⟨k, 1, none⟩ (.string J.name)).setCell ⟨k, 2, none⟩ (.int .i64 J.val)).setCell ⟨k, 3, none⟩ (.int .i64 J.bound)).setCell ⟨k, 4, none⟩ (.slice o J.args.length c)) → wpOp P ops Q st K (fr x) W)
    (hend : ∀ x W k o c, x al = .pointer (some ⟨k, 0, none⟩) → Below w.heap.size w W → k < W.heap.size → Cells5 W k 0 (.int .i64 J.op) (.string J.name) (.int .i64 J.val) (.int .i64 J.bound) (.slice o J.args.length c) → Fits J → FArgs W.heap.size W (.slice o J.args.length c) J.args → Q .normal (fr x) W) : (Code.region id ops true).wp P Q (fr x0) w := by
  refine wp_region_inv hm ho (fun L x W => Below w.heap.size w W ∧ (∀ i, L i = true → ∀ j, (depsOf ops i).contains j = true → L j = true) ∧ (L st = true → ∀ i, i < ops.size → L i = true) ∧
    (L al = false → ∀ i, L i = true → i ≠ al → i ≠ st → (fs i).holds (fun _ => True) (x i) W) ∧
    (L al = true → ∃ k, x al = .pointer (some ⟨k, 0, none⟩) ∧ w.heap.size ≤ k ∧ k < W.heap.size ∧ (L st = false → Res5 W k ∧ ∀ i, L i = true → i ≠ al → i ≠ st → (fs i).holds (fun b => b ≠ k) (x i) W) ∧
      (L st = true → ∃ o c, Cells5 W k 0 (.int .i64 J.op) (.string J.name) (.int .i64 J.val) (.int .i64 J.bound) (.slice o J.args.length c) ∧ Fits J ∧ FArgs W.heap.size W (.slice o J.args.length c) J.args))) fr x0
    ⟨(Below.refl _ _).drew, (fun i h => by cases h), (fun h => by cases h), (fun _ i h => by cases h), (fun h => by cases h)⟩ ?_ ?_
  · rintro L i x W K hi hL hd ⟨hB, hcl, hall, hf, ht⟩ hK
    have hcl' : ∀ a, lst L i a = true → ∀ j, (depsOf ops a).contains j = true → lst L i j = true := by
      intro a ha j hj
      unfold lst at ha ⊢
      split
      · rfl
      · split at ha
        · next h => subst h; exact hd j hj
        · exact hcl a ha j hj
    have hLst : L st = false := by
      cases h : L st
      · rfl
      · rw [hall h i hi] at hL; cases hL
    by_cases hia : i = al
    · subst hia
      have hsz := hB.size
      refine hal x W K (hK _ _ ⟨hB.alloc hsz _, hcl', fun h => ?_, fun h => ?_, fun _ => ⟨W.heap.size, ?_, hsz, by simp, fun _ => ⟨⟨_, _, _, _, _, heap_alloc_new W _⟩, fun j hj h1 h2 => ?_⟩, fun h => ?_⟩⟩)
      · unfold lst at h; rw [if_neg (Ne.symm hne), hLst] at h; cases h
      · unfold lst at h; rw [if_pos rfl] at h; cases h
      · unfold upd; rw [if_pos rfl]
      · unfold upd
        rw [if_neg h1]
        unfold lst at hj
        rw [if_neg h1] at hj
        exact Fq.stable _ (hf hL j hj h1 h2) (below_box W _) fun b hb _ => by omega
      · unfold lst at h; rw [if_neg (Ne.symm hne), hLst] at h; cases h
    · by_cases his : i = st
      · subst his
        have hLall : ∀ j, j < ops.size → lst L i j = true := by
          intro j hj
          unfold lst
          split
          · rfl
          · next hji =>
            unfold lastB at hlast
            rw [List.all_eq_true] at hlast
            have h1 := hlast j (List.mem_range.2 hj)
            simp only [Bool.or_eq_true, beq_iff_eq] at h1
            rcases h1 with h1 | h1
            · exact absurd h1 hji
            · exact reachL_done hcl 8 _ (fun q hq => hd q (by simpa using hq)) j (by simpa using h1)
        have hLal : L al = true := by have := hLall al has; unfold lst at this; rwa [if_neg hne] at this
        have hLs : L src = true := by have := hLall src hsrc; unfold lst at this; rwa [if_neg hss] at this
        obtain ⟨k, hxk, hk1, hk2, hb, -⟩ := ht hLal
        obtain ⟨hres, hfacts⟩ := hb hL
        have hJ : (Fq.fmF J).holds (fun b => b ≠ k) (x src) W := by rw [← hfs]; exact hfacts src hLs hsa hss
        obtain ⟨o, c, hxs, hfit, hargs⟩ := FAtP.open hJ
        refine hst x W K k o c hxk hres hxs (hK _ _ ⟨set5_below hB hk1 _ _ _ _ _, hcl', fun _ => hLall, fun h => ?_, fun _ => ⟨k, ?_, hk1, by rw [set5_size]; exact hk2, fun h => ?_, fun _ => ⟨o, c, ?_, hfit, ?_⟩⟩⟩)
        · unfold lst at h; rw [if_neg hne, hLal] at h; cases h
        · unfold upd; rw [if_neg hne]; exact hxk
        · unfold lst at h; rw [if_pos rfl] at h; cases h
        · have hrow := hres.set (.int .i64 J.op) (.string J.name) (.int .i64 J.val) (.int .i64 J.bound) (.slice o J.args.length c)
          exact ⟨cell_of_row _ k 0 _ _ _ hrow, cell_of_row _ k 1 _ _ _ hrow, cell_of_row _ k 2 _ _ _ hrow, cell_of_row _ k 3 _ _ _ hrow, cell_of_row _ k 4 _ _ _ hrow⟩
        · refine (hargs.same fun b hb => set5_other W k b hb.2 _ _ _ _ _).mono fun b hb => ?_
          rw [set5_size]
          exact hb.1
      · have hcase : ∃ Ok : Nat → Prop, (∀ b, W.heap.size ≤ b → Ok b) ∧ (∀ b, b < w.heap.size → Ok b) ∧ (∀ j, L j = true → j ≠ al → j ≠ st → (fs j).holds Ok (x j) W) ∧ (L al = false → Ok = fun _ => True) ∧ (L al = true → ∃ k, x al = .pointer (some ⟨k, 0, none⟩) ∧ w.heap.size ≤ k ∧ k < W.heap.size ∧ Res5 W k ∧ Ok = fun b => b ≠ k) := by
          cases hLa : L al
          · exact ⟨fun _ => True, fun _ _ => trivial, fun _ _ => trivial, hf hLa, fun _ => rfl, (fun h => by cases h)⟩
          · obtain ⟨k, h1, h2, h3, h4, -⟩ := ht hLa
            obtain ⟨h5, h6⟩ := h4 hLst
            exact ⟨fun b => b ≠ k, fun b hb => by show b ≠ k; omega, fun b hb => by show b ≠ k; omega, h6, (fun h => by cases h), fun _ => ⟨k, h1, h2, h3, h5, rfl⟩⟩
        obtain ⟨Ok, hO1, hO2, hfa, hO3, hO4⟩ := hcase
        refine hstep Ok i x W K hi hia his hO1 hO2 hB (fun j h1 h2 hj => hfa j (hd j hj) h1 h2) fun v w' hv hb => hK v w' ⟨hB.trans (hb.mono hB.size), hcl', fun h => ?_, fun h j hj h1 h2 => ?_, fun h => ?_⟩
        · unfold lst at h; rw [if_neg (Ne.symm his), hLst] at h; cases h
        · have hLa : L al = false := by unfold lst at h; rwa [if_neg (Ne.symm hia)] at h
          have hOk := hO3 hLa
          subst hOk
          unfold upd
          by_cases hji : j = i
          · subst hji; rw [if_pos rfl]; exact hv
          · rw [if_neg hji]
            unfold lst at hj
            rw [if_neg hji] at hj
            exact Fq.stable _ (hfa j hj h1 h2) hb fun _ _ h => h
        · have hLa : L al = true := by unfold lst at h; rwa [if_neg (Ne.symm hia)] at h
          obtain ⟨k, h1, h2, h3, h5, hOk⟩ := hO4 hLa
          subst hOk
          refine ⟨k, ?_, h2, Nat.lt_of_lt_of_le h3 hb.size, fun _ => ⟨h5.below hb, fun j hj g1 g2 => ?_⟩, fun hh => ?_⟩
          · unfold upd; rw [if_neg (Ne.symm hia)]; exact h1
          · unfold upd
            by_cases hji : j = i
            · subst hji; rw [if_pos rfl]; exact hv
            · rw [if_neg hji]
              unfold lst at hj
              rw [if_neg hji] at hj
              exact Fq.stable _ (hfa j hj g1 g2) hb fun _ _ h => h
          · unfold lst at hh; rw [if_neg (Ne.symm his), hLst] at hh; cases hh
  · rintro L x W hall ⟨hB, -, -, -, ht⟩
    have hst' : L st = true := hall st hsst
    obtain ⟨k, h1, h2, h3, -, h4⟩ := ht (hall al has)
    obtain ⟨o, c, h5, h6, h7⟩ := h4 hst'
    exact hend x W k o c h1 hB h3 h5 h6 h7

end Go.Proofs.YtmklekdkaekcbaaGreatDoor

/-
  The formulas that the law's head names, what its functions make of them, and what its regions' operations hand back.
-/
namespace Go.Proofs.YtmklekdkaekcbaaGreatDoor
open Go.RowKit

def hA : Fm := .mk 3 ⟨#[97]⟩ 1 0 []
def hB : Fm := .mk 3 ⟨#[98]⟩ 1 0 []
def hNA : Fm := .mk 4 ⟨#[]⟩ 0 0 [hA]
def hX : Fm := .mk 9 ⟨#[]⟩ 0 0 [fTrue, hNA]
def hXA : Fm := .mk 8 ⟨#[]⟩ 0 0 [hA]
def hO1 : Fm := .mk 6 ⟨#[]⟩ 0 0 [hA, hXA]
def hX1 : Fm := .mk 8 ⟨#[]⟩ 0 0 [hO1]
def hY : Fm := .mk 6 ⟨#[]⟩ 0 0 [hA, hX1]
def hAB : Fm := .mk 5 ⟨#[]⟩ 0 0 [hA, hB]
def hBAB : Fm := .mk 5 ⟨#[]⟩ 0 0 [hB, hAB]
def hC0 : Fm := .mk 5 ⟨#[]⟩ 0 0 [hBAB, fTrue]
def hN : Fm := .mk 15 ⟨#[]⟩ 1 0 [hNA]
def hXB : Fm := .mk 8 ⟨#[]⟩ 0 0 [hB]
def hP : Fm := .mk 16 ⟨#[]⟩ 0 0 [hA, hXB]
def hOab : Fm := .mk 6 ⟨#[]⟩ 0 0 [hA, hB]
def hI : Fm := .mk 7 ⟨#[]⟩ 0 0 [hB, hOab]
def hGA : Fm := .mk 12 ⟨#[]⟩ 0 0 [hA]
def hK1 : Fm := .mk 4 ⟨#[]⟩ 0 0 [hGA]
def hK2 : Fm := .mk 13 ⟨#[]⟩ 0 2 [hA]
def hK3 : Fm := .mk 11 ⟨#[]⟩ 0 0 [zeroF]
def hFab : Fm := .mk 11 ⟨#[]⟩ 0 0 [hAB]
def hK4 : Fm := .mk 13 ⟨#[]⟩ 0 9 [hFab]
def hYA : Fm := .mk 15 ⟨#[]⟩ 0 0 [hA]
def hNT : Fm := .mk 4 ⟨#[]⟩ 0 0 [fTrue]

theorem hd_cmp : cmpF hA hB = -1 := by decide +kernel
theorem hd_canon : canonTop hC0 = hAB := cmpF_eq0.1 (by decide +kernel)
theorem hd_or : combineF 6 [hA, hNA] = fTrue := cmpF_eq0.1 (by decide +kernel)
theorem hd_not : notF hYA = hN := cmpF_eq0.1 (by decide +kernel)
theorem hd_names : namesF hI = [⟨#[97]⟩, ⟨#[98]⟩] := by decide +kernel
theorem hd_k1 : kernelF hK1 = (hX, 0) := Prod.ext (cmpF_eq0.1 (by decide +kernel)) (by decide +kernel)
theorem hd_k2 : kernelF hK2 = (hY, 0) := Prod.ext (cmpF_eq0.1 (by decide +kernel)) (by decide +kernel)
theorem hd_k3 : (kernelF hK3).2 = 30 := by decide +kernel
theorem hd_k4 : (kernelF hK4).2 = 2 := by decide +kernel
theorem hd_sig : validB [⟨⟨#[97]⟩, false, 2⟩] = true := by decide +kernel
theorem hd_p1 : fvalidB hP = true := by decide +kernel
theorem hd_p2 : layB hP = false := by decide +kernel
theorem hd_p3 : pastB hP = false := by decide +kernel
theorem hd_p4 : hP.nodes = 4 := by decide +kernel
theorem hd_p5 : kernelB hX = true := by decide +kernel
theorem hd_p6 : kernelB hNT = false := by decide +kernel

/-- a formula in a block of its own -/
def BoxF (n0 : Nat) (W : World) (k : Nat) (f : Fm) (o : Option Addr) (c : Nat) : Prop := k < n0 ∧ Cells5 W k 0 (.int .i64 f.op) (.string f.name) (.int .i64 f.val) (.int .i64 f.bound) (.slice o f.args.length c) ∧ Fits f ∧ FArgs n0 W (.slice o f.args.length c) f.args
theorem BoxF.next {n0 : Nat} {W W' : World} {k : Nat} {f : Fm} {o : Option Addr} {c : Nat} (h : BoxF n0 W k f o c) (hn : n0 ≤ W.heap.size) (hB : Below W.heap.size W W') : BoxF n0 W' k f o c :=
  ⟨h.1, h.2.1.below hB (Nat.lt_of_lt_of_le h.1 hn), h.2.2.1, h.2.2.2.kept hB hn⟩
theorem BoxF.up {n0 n1 : Nat} {W : World} {k : Nat} {f : Fm} {o : Option Addr} {c : Nat} (h : BoxF n0 W k f o c) (hn : n0 ≤ n1) : BoxF n1 W k f o c :=
  ⟨Nat.lt_of_lt_of_le h.1 hn, h.2.1, h.2.2.1, h.2.2.2.mono hn⟩

theorem strs_ab (W : World) (Ok : Nat → Prop) (hOk : ∀ b, W.heap.size ≤ b → Ok b) : (Fq.strsF [⟨#[97]⟩, ⟨#[98]⟩]).holds Ok (.slice (some ⟨W.heap.size, 0, none⟩) 2 2) (W.alloc (.cells #[.string ⟨#[97]⟩, .string ⟨#[98]⟩] 9)) := by
  refine .inr ⟨W.heap.size, 0, 2, rfl, ⟨by simp, hOk _ (Nat.le_refl _)⟩, Nat.le_refl _, by decide, fun k hk => ?_⟩
  have h := heap_alloc_new W (.cells #[.string ⟨#[97]⟩, .string ⟨#[98]⟩] 9)
  match k, hk with
  | 0, _ => exact ⟨cell_of_row _ _ 0 _ _ _ h, show ByteArray.size ⟨#[97]⟩ ≤ 9223372036854775807 by decide⟩
  | 1, _ => exact ⟨cell_of_row _ _ 1 _ _ _ h, show ByteArray.size ⟨#[98]⟩ ≤ 9223372036854775807 by decide⟩
theorem sigs_a (W : World) : (Fq.sigsF [⟨⟨#[97]⟩, false, 2⟩]).holds (fun _ => True) (.slice (some ⟨W.heap.size, 0, none⟩) 1 1) (W.alloc (.cells #[.string ⟨#[97]⟩, .bool false, .int .i64 2] 51)) := by
  refine .inr ⟨W.heap.size, 0, 1, rfl, by simp, Nat.le_refl _, by decide, fun k hk => ?_⟩
  have h := heap_alloc_new W (.cells #[.string ⟨#[97]⟩, .bool false, .int .i64 2] 51)
  obtain rfl : k = 0 := by simpa using hk
  exact ⟨cell_of_row _ _ 0 _ _ _ h, cell_of_row _ _ 1 _ _ _ h, cell_of_row _ _ 2 _ _ _ h, show ByteArray.size ⟨#[97]⟩ ≤ 9223372036854775807 by decide, show (-9223372036854775808 : Int) ≤ 2 by decide, show (2 : Int) ≤ 9223372036854775807 by decide⟩

def Fs7 : Nat → Fq
  | 0 => .valF (.int .i64 0)
  | 1 => .boolF true
  | 2 => .boolF true
  | 3 => .fmF hX
  | 4 => .fmF fTrue
  | 5 => .fmF hA
  | 6 => .fmF hNA
  | 7 => .fmF hX
  | 8 => .boolF true
  | 9 => .boolF true
  | 10 => .boolF true
  | 11 => .valF (.int .i64 0)
  | 12 => .boolF true
  | 13 => .boolF true
  | 14 => .boolF true
  | 15 => .fmF hY
  | 16 => .fmF hA
  | 17 => .fmF hA
  | 18 => .fmF hA
  | 19 => .fmF hXA
  | 20 => .fmF hO1
  | 21 => .fmF hX1
  | 22 => .fmF hY
  | 23 => .boolF true
  | 24 => .boolF true
  | 25 => .boolF true
  | 26 => .valF (.int .i64 30)
  | 27 => .boolF true
  | 28 => .boolF true
  | 29 => .boolF true
  | 30 => .valF (.int .i64 2)
  | 31 => .boolF true
  | 32 => .boolF true
  | 33 => .boolF true
  | _ => .free

def Fs8 : Nat → Fq
  | 0 => .fmF hB
  | 1 => .fmF hA
  | 2 => .fmF hB
  | 3 => .fmF hAB
  | 4 => .fmF hBAB
  | 5 => .fmF fTrue
  | 6 => .fmF hC0
  | 7 => .fmF hAB
  | 8 => .free
  | 9 => .free
  | _ => .free

def Fs9 : Nat → Fq
  | 0 => .fmF hA
  | 1 => .fmF hA
  | 2 => .fmF hNA
  | 3 => .fmsF [hA, hNA]
  | 4 => .fmF fTrue
  | 5 => .free
  | 6 => .free
  | _ => .free

def Fs11 (k13 : Nat) : Nat → Fq
  | 0 => .fmF hAB
  | 1 => .fmF hA
  | 2 => .fmF hB
  | 3 => .fmF hAB
  | 4 => .boolF true
  | 5 => .boolF true
  | 6 => .valF (.pointer (some ⟨k13, 0, none⟩))
  | 7 => .valF (.int .i64 1)
  | 8 => .boolF true
  | 9 => .boolF true
  | 10 => .boolF true
  | 11 => .fmF hN
  | 12 => .fmF hA
  | 13 => .fmF hNA
  | 14 => .fmsF [hNA]
  | 15 => .fmF hN
  | 16 => .boolF true
  | 17 => .boolF true
  | 18 => .boolF true
  | 19 => .fmF hA
  | 20 => .fmF hB
  | 21 => .valF (.int .i64 (-1))
  | 22 => .boolF true
  | 23 => .boolF true
  | 24 => .boolF true
  | 25 => .fmF hB
  | 26 => .fmF hB
  | 27 => .valF (.int .i64 0)
  | 28 => .boolF true
  | 29 => .boolF true
  | 30 => .boolF true
  | _ => .free

def Fs12 : Nat → Fq
  | 0 => .fmF hA
  | 1 => .fmF hB
  | 2 => .fmF hXB
  | 3 => .fmsF [hA, hXB]
  | 4 => .fmF hP
  | 5 => .free
  | 6 => .free
  | _ => .free

def Fs14 : Nat → Fq
  | 0 => .boolF true
  | 1 => .boolF true
  | 2 => .boolF true
  | 3 => .boolF true
  | 4 => .boolF true
  | 5 => .boolF true
  | 6 => .boolF true
  | 7 => .boolF true
  | 8 => .fmF hB
  | 9 => .fmF hA
  | 10 => .fmF hB
  | 11 => .fmF hOab
  | 12 => .fmF hI
  | 13 => .strsF [⟨#[97]⟩, ⟨#[98]⟩]
  | 14 => .strsF [⟨#[97]⟩, ⟨#[98]⟩]
  | 15 => .boolF true
  | 16 => .boolF true
  | 17 => .boolF true
  | 18 => .valF (.agg #[.string ⟨#[97]⟩, .bool false, .int .i64 2])
  | 19 => .sigsF [⟨⟨#[97]⟩, false, 2⟩]
  | 20 => .boolF true
  | 21 => .boolF true
  | 22 => .boolF true
  | _ => .free

end Go.Proofs.YtmklekdkaekcbaaGreatDoor
