/-
  Contracts that the formula laws stand on, part Gx.
-/
import Derived.Deep.RegionLaw
import Derived.Test.YtbnnjbfbifihaaaGreatDoorGb
import Derived.Test.YtbnnjbfbifihaaaGreatDoorGd

/-
  A region that draws its order of evaluation, by facts of the operations' values: at formulas; where the region lays one block and stores into it last.
-/
namespace Go.Proofs.YtbnnjbfbifihaaaGreatDoor
open Go.RowKit

/-- the values of the operations' slots, one of them turned -/
def upd (x : Nat → Value) (i : Nat) (v : Value) : Nat → Value := fun j => if j = i then v else x j

theorem wpOp_of_list' {P : Program} {ops : Array Oper} {Q : Exit → Act → World → Prop} {K : Act → World → Prop} {i : Nat} {o : Oper} {a : Act} {w : World} (ho : ops[i]? = some o)
    (h : wpList P ops (Exit.then K Q) [o] a w) : wpOp P ops Q i K a w := by
  have up : ∀ r, o.upon P a K (Exit.then K Q) r → o.upon P a K Q r := by
    intro r h
    cases r with
    | ok x w' => cases x <;> exact h
    | halt x w' => cases x <;> exact h
  unfold wpOp
  rw [ho]
  simp only [wpList] at h
  by_cases hw : Region.wanted o (yielded ops a.tmps) = true
  · simp only [hw, if_true] at h ⊢
    first
      | exact .inl (up _ h)
      | exact h.imp (fun h => up _ h) id
  · simp only [hw, if_false, Bool.false_eq_true] at h ⊢
    exact h

theorem ready_spec {md : Region.Mode} {ops : Array Oper} {listed : Array Bool} {i : Nat} (h : i ∈ Region.ready md ops listed) :
    i < ops.size ∧ listed.getD i true = false ∧ ∀ o, ops[i]? = some o → ∀ e ∈ o.after, Region.binds md e = true → listed.getD e.on false = true := by
  unfold Region.ready at h
  simp only [List.mem_filter, List.mem_range, Bool.and_eq_true, Bool.not_eq_true'] at h
  obtain ⟨h1, h2, h3⟩ := h
  refine ⟨h1, h2, fun o ho e he hb => ?_⟩
  rw [ho] at h3
  simp only [Option.map_some, Option.getD_some, Array.all_eq_true'] at h3
  have := h3 e he
  rw [hb] at this
  simpa using this

/-- every operation comes behind those that it waits for -/
def ordered (ops : Array Oper) : Bool := (List.range ops.size).all fun i => ((ops[i]?).map fun o => o.after.all fun e => decide (e.on < i)).getD true

theorem ordered_spec {ops : Array Oper} (h : ordered ops = true) {i : Nat} {o : Oper} (ho : ops[i]? = some o) : ∀ e ∈ o.after, e.on < i := by
  intro e he
  unfold ordered at h
  rw [List.all_eq_true] at h
  have hi : i < ops.size := (Array.getElem?_eq_some_iff.1 ho).1
  have := h i (List.mem_range.2 hi)
  rw [ho] at this
  simp only [Option.map_some, Option.getD_some, Array.all_eq_true'] at this
  simpa using this e he

theorem ready_none {md : Region.Mode} {ops : Array Oper} {listed : Array Bool} (ho : ordered ops = true) (hsz : listed.size = ops.size) (h : Region.ready md ops listed = []) : ∀ i, i < ops.size → listed.getD i false = true := by
  intro i
  induction i using Nat.strongRecOn with
  | _ i ih =>
    intro hi
    have hi' : i < listed.size := by omega
    cases hb : listed.getD i false with
    | true => rfl
    | false =>
      exfalso
      have hm : i ∈ Region.ready md ops listed := by
        unfold Region.ready
        simp only [List.mem_filter, List.mem_range, Bool.and_eq_true, Bool.not_eq_true']
        refine ⟨hi, ?_, ?_⟩
        · simp only [Array.getD_eq_getD_getElem?, Array.getElem?_eq_getElem hi', Option.getD_some] at hb ⊢
          exact hb
        · rw [Array.getElem?_eq_getElem hi]
          simp only [Option.map_some, Option.getD_some, Array.all_eq_true']
          intro e he
          have hlt := ordered_spec ho (Array.getElem?_eq_getElem hi) e he
          rw [ih e.on hlt (by omega)]
          simp
      rw [h] at hm
      cases hm

theorem count_less : ∀ (l : List Bool) (i : Nat), l[i]? = some false → (l.set i true).count false < l.count false := by
  intro l
  induction l with
  | nil => intro i h; simp at h
  | cons b l ih =>
    intro i h
    cases i with
    | zero => simp at h; subst h; simp
    | succ i =>
      simp only [List.getElem?_cons_succ] at h
      have := ih i h
      simp only [List.set_cons_succ, List.count_cons]
      omega

/-- what an operation waits for -/
def depsOf (ops : Array Oper) (i : Nat) : List Nat := match ops[i]? with
  | some o => (o.after.toList.filter (Region.binds .any)).map (·.on)
  | none => []

theorem depsOf_spec {ops : Array Oper} {i j : Nat} (h : (depsOf ops i).contains j = true) : ∃ o e, ops[i]? = some o ∧ e ∈ o.after ∧ Region.binds .any e = true ∧ e.on = j := by
  unfold depsOf at h
  cases ho : ops[i]? with
  | none => rw [ho] at h; simp at h
  | some o =>
    rw [ho] at h
    simp only [List.contains_eq_mem, decide_eq_true_eq, List.mem_map, List.mem_filter] at h
    obtain ⟨e, ⟨h1, h2⟩, h3⟩ := h
    exact ⟨o, e, rfl, by simpa using h1, h2, h3⟩

/-- one more operation has been done -/
def lst (L : Nat → Bool) (i : Nat) : Nat → Bool := fun j => if j = i then true else L j

theorem getD_lst (listed : Array Bool) (i : Nat) (hi : i < listed.size) : (fun j => (listed.setIfInBounds i true).getD j false) = lst (fun j => listed.getD j false) i := by
  funext j
  unfold lst
  simp only [Array.getD_eq_getD_getElem?]
  by_cases h : j = i
  · subst h; simp [hi]
  · rw [Array.getElem?_setIfInBounds_ne (Ne.symm h), if_neg h]

theorem wp_region_inv {P : Program} {ops : Array Oper} {Q : Exit → Act → World → Prop} {id : Nat} {w : World} (hm : P.follows .mixedOrders = true) (ho : ordered ops = true) (I : (Nat → Bool) → (Nat → Value) → World → Prop) (fr : (Nat → Value) → Act) (x0 : Nat → Value)
    (h0 : I (fun _ => false) x0 { w with drawn := w.drawn + 1 })
    (hstep : ∀ L i x w K, i < ops.size → L i = false → (∀ j, (depsOf ops i).contains j = true → L j = true) → I L x w → (∀ v w', I (lst L i) (upd x i v) w' → K (fr (upd x i v)) w') → wpOp P ops Q i K (fr x) w)
    (hend : ∀ L x w, (∀ i, i < ops.size → L i = true) → I L x w → Q .normal (fr x) w) : (Code.region id ops true).wp P Q (fr x0) w := by
  have key : ∀ fuel listed x w, listed.size = ops.size → listed.toList.count false ≤ fuel → I (fun j => listed.getD j false) x w → wpAny P .any ops Q fuel listed (fr x) w := by
    intro fuel
    induction fuel with
    | zero =>
      intro listed x w hsz hc hI
      have hr : Region.ready .any ops listed = [] := by
        refine List.eq_nil_iff_forall_not_mem.2 fun i hi => ?_
        obtain ⟨h1, h2, -⟩ := ready_spec hi
        have hi' : i < listed.size := by omega
        simp only [Array.getD_eq_getD_getElem?, Array.getElem?_eq_getElem hi', Option.getD_some] at h2
        have := count_less listed.toList i (by simp [hi', h2])
        omega
      exact ⟨hr, hend _ x w (ready_none ho hsz hr) hI⟩
    | succ f ih =>
      intro listed x w hsz hc hI
      refine ⟨fun hr => hend _ x w (ready_none ho hsz hr) hI, fun i hi => ?_⟩
      obtain ⟨h1, h2, h3⟩ := ready_spec hi
      have hi' : i < listed.size := by omega
      simp only [Array.getD_eq_getD_getElem?, Array.getElem?_eq_getElem hi', Option.getD_some] at h2
      refine hstep _ i x w _ h1 (by simp [Array.getD_eq_getD_getElem?, hi', h2]) (fun j hj => ?_) hI fun v w' hv => ?_
      · obtain ⟨o, e, hoi, he, hb, rfl⟩ := depsOf_spec hj
        exact h3 o hoi e he hb
      · refine ih _ _ _ (by simpa using hsz) ?_ (by rw [getD_lst _ _ hi']; exact hv)
        have := count_less listed.toList i (by simp [hi', h2])
        simp only [Array.toList_setIfInBounds]
        omega
  refine wp_region_any hm ?_
  refine key ops.size (Array.replicate ops.size false) x0 _ (by simp) (Nat.le_trans List.count_le_length (by simp)) ?_
  have : (fun j => (Array.replicate ops.size false).getD j false) = fun _ => false := by
    funext j
    simp only [Array.getD_eq_getD_getElem?, Array.getElem?_replicate]
    split <;> rfl
  rw [this]
  exact h0

/-- the operations of a region, by its number -/
def findRegion (id : Nat) : Code → Option (Array Oper)
  | .region i ops _ => if i == id then some ops else none
  | .seq a b => match findRegion id a with
    | some x => some x
    | none => findRegion id b
  | .cond _ a b => match findRegion id a with
    | some x => some x
    | none => findRegion id b
  | .block _ a => findRegion id a
  | .loop a => findRegion id a
  | .rangeFunc _ _ a b => match findRegion id a with
    | some x => some x
    | none => findRegion id b
  | .scope a => findRegion id a
  | _ => none
def opsAt (f : Func) (id : Nat) : Array Oper := match f.body with
  | some c => (findRegion id c).getD #[]
  | none => #[]


/-- what may be known of a value in a world: what it leads to lies in blocks that Ok allows -/
inductive Fq where
  | free
  | boolF (b : Bool)
  | intF (n : Int)
  | fmF (f : Fm)
  | fmsF (l : List Fm)
  | strsF (l : List ByteArray)
  | sigsF (l : List Sig)
  | valF (u : Value)

def Fq.holds (Ok : Nat → Prop) : Fq → Value → World → Prop
  | .free, _, _ => True
  | .boolF b, v, _ => v = .bool b
  | .intF n, v, _ => v = .int .i64 n
  | .fmF f, v, w => FAtP (fun b => b < w.heap.size ∧ Ok b) w v f
  | .fmsF l, v, w => FArgsP (fun b => b < w.heap.size ∧ Ok b) w v l
  | .strsF l, v, w => StrsP (fun b => b < w.heap.size ∧ Ok b) w v l
  | .sigsF l, v, w => Sigs w.heap.size w v l
  | .valF u, v, _ => v = u

theorem Fq.stable (f : Fq) {Ok Ok' : Nat → Prop} {v : Value} {w w' : World} (h : f.holds Ok v w) (hB : Below w.heap.size w w') (hO : ∀ b, b < w.heap.size → Ok b → Ok' b) : f.holds Ok' v w' := by
  have hs := hB.size
  cases f with
  | free => trivial
  | boolF b => exact h
  | intF n => exact h
  | fmF f => exact (FAtP.kept h hB (fun b hb => hb.1)).mono fun b hb => ⟨by omega, hO b hb.1 hb.2⟩
  | fmsF l => exact (FArgsP.kept h hB (fun b hb => hb.1)).mono fun b hb => ⟨by omega, hO b hb.1 hb.2⟩
  | sigsF l => exact (Sigs.below h hB (Nat.le_refl _)).mono hs
  | valF u => exact h
  | strsF l => exact (StrsP.kept h hB (fun b hb => hb.1)).mono fun b hb => ⟨by omega, hO b hb.1 hb.2⟩

/-- what a contract hands back -/
theorem fm_got {Ok : Nat → Prop} {W W2 : World} {r : Value} {f : Fm} (h : FAtP (NewP (fun b => b < W.heap.size ∧ Ok b) W W2) W2 r f) (hB : Below W.heap.size W W2) (hO : ∀ b, W.heap.size ≤ b → Ok b) : (Fq.fmF f).holds Ok r W2 :=
  FAtP.mono h fun b hb => by
    have := hB.size
    rcases hb with ⟨h1, h2⟩ | ⟨h1, h2⟩
    · exact ⟨by omega, h2⟩
    · exact ⟨h2, hO b h1⟩
theorem fm_at {Ok : Nat → Prop} {W : World} {v : Value} {f : Fm} (h : (Fq.fmF f).holds Ok v W) : FAt W.heap.size W v f := FAtP.mono h fun _ hb => hb.1

/-- a region of facts alone -/
theorem wp_region_fq {P : Program} {ops : Array Oper} {Q : Exit → Act → World → Prop} {id : Nat} {w : World} (hm : P.follows .mixedOrders = true) (ho : ordered ops = true) (fs : Nat → Fq) (fr : (Nat → Value) → Act) (x0 : Nat → Value)
    (hstep : ∀ i x W K, i < ops.size → Below w.heap.size w W → (∀ j, (depsOf ops i).contains j = true → (fs j).holds (fun _ => True) (x j) W) → (∀ v w', (fs i).holds (fun _ => True) v w' → Below W.heap.size W w' → K (fr (upd x i v)) w') → wpOp P ops Q i K (fr x) W)
    (hend : ∀ x W, Below w.heap.size w W → (∀ i, i < ops.size → (fs i).holds (fun _ => True) (x i) W) → Q .normal (fr x) W) : (Code.region id ops true).wp P Q (fr x0) w := by
  refine wp_region_inv hm ho (fun L x W => Below w.heap.size w W ∧ ∀ i, L i = true → (fs i).holds (fun _ => True) (x i) W) fr x0 ⟨(Below.refl _ _).drew, fun i h => by cases h⟩ ?_ fun L x W hall hI => hend x W hI.1 fun i hi => hI.2 i (hall i hi)
  intro L i x W K hi hL hd hI hK
  refine hstep i x W K hi hI.1 (fun j hj => hI.2 j (hd j hj)) fun v w' hv hB => hK v w' ⟨hI.1.trans (hB.mono hI.1.size), fun j hj => ?_⟩
  unfold upd
  by_cases hji : j = i
  · subst hji
    rw [if_pos rfl]
    exact hv
  · rw [if_neg hji]
    refine Fq.stable _ (hI.2 j ?_) hB (fun _ _ h => h)
    unfold lst at hj
    rwa [if_neg hji] at hj

/-- all that must be done before some operations -/
def reachL (ops : Array Oper) : Nat → List Nat → List Nat
  | 0, l => l
  | n + 1, l => reachL ops n (l ++ l.flatMap (depsOf ops)).eraseDups
theorem reachL_done {ops : Array Oper} {L : Nat → Bool} (hcl : ∀ i, L i = true → ∀ j, (depsOf ops i).contains j = true → L j = true) : ∀ (n : Nat) (l : List Nat), (∀ j ∈ l, L j = true) → ∀ j ∈ reachL ops n l, L j = true
  | 0, l, h => h
  | n + 1, l, h => by
    refine reachL_done hcl n _ fun j hj => ?_
    rw [List.mem_eraseDups, List.mem_append, List.mem_flatMap] at hj
    rcases hj with hj | ⟨i, hi, hj⟩
    · exact h j hj
    · exact hcl i (h i hi) j (by simpa using hj)
def lastB (ops : Array Oper) (st : Nat) : Bool := (List.range ops.size).all fun i => i == st || (reachL ops 8 (depsOf ops st)).contains i

/-- a region that lays one block for a formula and stores into it last -/
theorem wp_region_box {P : Program} {ops : Array Oper} {Q : Exit → Act → World → Prop} {id : Nat} {w : World} (hm : P.follows .mixedOrders = true) (ho : ordered ops = true) (fs : Nat → Fq) (fr : (Nat → Value) → Act) (x0 : Nat → Value) (al st src : Nat) (J : Fm)
    (hlast : lastB ops st = true) (hne : al ≠ st) (hsa : src ≠ al) (hss : src ≠ st) (has : al < ops.size) (hsst : st < ops.size) (hsrc : src < ops.size) (hfs : fs src = .fmF J)
    (hstep : ∀ (Ok : Nat → Prop) i x W K, i < ops.size → i ≠ al → i ≠ st → (∀ b, W.heap.size ≤ b → Ok b) → (∀ b, b < w.heap.size → Ok b) → Below w.heap.size w W → (∀ j, j ≠ al → j ≠ st → (depsOf ops i).contains j = true → (fs j).holds Ok (x j) W) → (∀ v w', (fs i).holds Ok v w' → Below W.heap.size W w' → K (fr (upd x i v)) w') → wpOp P ops Q i K (fr x) W)
    (hal : ∀ x W K, K (fr (upd x al (.pointer (some ⟨W.heap.size, 0, none⟩)))) (W.alloc (.cells #[.int .i64 0, .string ⟨#[]⟩, .int .i64 0, .int .i64 0, .slice none 0 0] 24)) → wpOp P ops Q al K (fr x) W)
    (hst : ∀ x W K k o c, x al = .pointer (some ⟨k, 0, none⟩) → Res5 W k → x src = .agg #[.int .i64 J.op, .string J.name, .int .i64 J.val, .int .i64 J.bound, .slice o J.args.length c] →
      K (fr (upd x st undef)) (((((W.setCell ⟨k, 0, none⟩ (.int .i64 J.op)).setCell ⟨k, 1, none⟩ (.string J.name)).setCell ⟨k, 2, none⟩ (.int .i64 J.val)).setCell ⟨k, 3, none⟩ (.int .i64 J.bound)).setCell ⟨k, 4, none⟩ (.slice o J.args.length c)) → wpOp P ops Q st K (fr x) W)
    (hend : ∀ x W k o c, x al = .pointer (some ⟨k, 0, none⟩) → Below w.heap.size w W → k < W.heap.size → Cells5 W k 0 (.int .i64 J.op) (.string J.name) (.int .i64 J.val) (.int .i64 J.bound) (.slice o J.args.length c) → Fits J → FArgs W.heap.size W (.slice o J.args.length c) J.args → Q .normal (fr x) W) : (Code.region id ops true).wp P Q (fr x0) w := by
  refine wp_region_inv hm ho (fun L x W => Below w.heap.size w W ∧ (∀ i, L i = true → ∀ j, (depsOf ops i).contains j = true → L j = true) ∧ (L st = true → ∀ i, i < ops.size → L i = true) ∧
    (L al = false → ∀ i, L i = true → i ≠ al → i ≠ st → (fs i).holds (fun _ => True) (x i) W) ∧
    (L al = true → ∃ k, x al = .pointer (some ⟨k, 0, none⟩) ∧ w.heap.size ≤ k ∧ k < W.heap.size ∧ (L st = false → Res5 W k ∧ ∀ i, L i = true → i ≠ al → i ≠ st → (fs i).holds (fun b => b ≠ k) (x i) W) ∧
      (L st = true → ∃ o c, Cells5 W k 0 (.int .i64 J.op) (.string J.name) (.int .i64 J.val) (.int .i64 J.bound) (.slice o J.args.length c) ∧ Fits J ∧ FArgs W.heap.size W (.slice o J.args.length c) J.args))) fr x0
    ⟨(Below.refl _ _).drew, (fun i h => by cases h), (fun h => by cases h), (fun _ i h => by cases h), (fun h => by cases h)⟩ ?_ ?_
  · rintro L i x W K hi hL hd ⟨hB, hcl, hall, hf, ht⟩ hK
    have hcl' : ∀ a, lst L i a = true → ∀ j, (depsOf ops a).contains j = true → lst L i j = true := by
      intro a ha j hj
      unfold lst at ha ⊢
      split
      · rfl
      · split at ha
        · next h => subst h; exact hd j hj
        · exact hcl a ha j hj
    have hLst : L st = false := by
      cases h : L st
      · rfl
      · rw [hall h i hi] at hL; cases hL
    by_cases hia : i = al
    · subst hia
      have hsz := hB.size
      refine hal x W K (hK _ _ ⟨hB.alloc hsz _, hcl', fun h => ?_, fun h => ?_, fun _ => ⟨W.heap.size, ?_, hsz, by simp, fun _ => ⟨⟨_, _, _, _, _, heap_alloc_new W _⟩, fun j hj h1 h2 => ?_⟩, fun h => ?_⟩⟩)
      · unfold lst at h; rw [if_neg (Ne.symm hne), hLst] at h; cases h
      · unfold lst at h; rw [if_pos rfl] at h; cases h
      · unfold upd; rw [if_pos rfl]
      · unfold upd
        rw [if_neg h1]
        unfold lst at hj
        rw [if_neg h1] at hj
        exact Fq.stable _ (hf hL j hj h1 h2) (below_box W _) fun b hb _ => by omega
      · unfold lst at h; rw [if_neg (Ne.symm hne), hLst] at h; cases h
    · by_cases his : i = st
      · subst his
        have hLall : ∀ j, j < ops.size → lst L i j = true := by
          intro j hj
          unfold lst
          split
          · rfl
          · next hji =>
            unfold lastB at hlast
            rw [List.all_eq_true] at hlast
            have h1 := hlast j (List.mem_range.2 hj)
            simp only [Bool.or_eq_true, beq_iff_eq] at h1
            rcases h1 with h1 | h1
            · exact absurd h1 hji
            · exact reachL_done hcl 8 _ (fun q hq => hd q (by simpa using hq)) j (by simpa using h1)
        have hLal : L al = true := by have := hLall al has; unfold lst at this; rwa [if_neg hne] at this
        have hLs : L src = true := by have := hLall src hsrc; unfold lst at this; rwa [if_neg hss] at this
        obtain ⟨k, hxk, hk1, hk2, hb, -⟩ := ht hLal
        obtain ⟨hres, hfacts⟩ := hb hL
        have hJ : (Fq.fmF J).holds (fun b => b ≠ k) (x src) W := by rw [← hfs]; exact hfacts src hLs hsa hss
        obtain ⟨o, c, hxs, hfit, hargs⟩ := FAtP.open hJ
        refine hst x W K k o c hxk hres hxs (hK _ _ ⟨set5_below hB hk1 _ _ _ _ _, hcl', fun _ => hLall, fun h => ?_, fun _ => ⟨k, ?_, hk1, by rw [set5_size]; exact hk2, fun h => ?_, fun _ => ⟨o, c, ?_, hfit, ?_⟩⟩⟩)
        · unfold lst at h; rw [if_neg hne, hLal] at h; cases h
        · unfold upd; rw [if_neg hne]; exact hxk
        · unfold lst at h; rw [if_pos rfl] at h; cases h
        · have hrow := hres.set (.int .i64 J.op) (.string J.name) (.int .i64 J.val) (.int .i64 J.bound) (.slice o J.args.length c)
          exact ⟨cell_of_row _ k 0 _ _ _ hrow, cell_of_row _ k 1 _ _ _ hrow, cell_of_row _ k 2 _ _ _ hrow, cell_of_row _ k 3 _ _ _ hrow, cell_of_row _ k 4 _ _ _ hrow⟩
        · refine (hargs.same fun b hb => set5_other W k b hb.2 _ _ _ _ _).mono fun b hb => ?_
          rw [set5_size]
          exact hb.1
      · have hcase : ∃ Ok : Nat → Prop, (∀ b, W.heap.size ≤ b → Ok b) ∧ (∀ b, b < w.heap.size → Ok b) ∧ (∀ j, L j = true → j ≠ al → j ≠ st → (fs j).holds Ok (x j) W) ∧ (L al = false → Ok = fun _ => True) ∧ (L al = true → ∃ k, x al = .pointer (some ⟨k, 0, none⟩) ∧ w.heap.size ≤ k ∧ k < W.heap.size ∧ Res5 W k ∧ Ok = fun b => b ≠ k) := by
          cases hLa : L al
          · exact ⟨fun _ => True, fun _ _ => trivial, fun _ _ => trivial, hf hLa, fun _ => rfl, (fun h => by cases h)⟩
          · obtain ⟨k, h1, h2, h3, h4, -⟩ := ht hLa
            obtain ⟨h5, h6⟩ := h4 hLst
            exact ⟨fun b => b ≠ k, fun b hb => by show b ≠ k; omega, fun b hb => by show b ≠ k; omega, h6, (fun h => by cases h), fun _ => ⟨k, h1, h2, h3, h5, rfl⟩⟩
        obtain ⟨Ok, hO1, hO2, hfa, hO3, hO4⟩ := hcase
        refine hstep Ok i x W K hi hia his hO1 hO2 hB (fun j h1 h2 hj => hfa j (hd j hj) h1 h2) fun v w' hv hb => hK v w' ⟨hB.trans (hb.mono hB.size), hcl', fun h => ?_, fun h j hj h1 h2 => ?_, fun h => ?_⟩
        · unfold lst at h; rw [if_neg (Ne.symm his), hLst] at h; cases h
        · have hLa : L al = false := by unfold lst at h; rwa [if_neg (Ne.symm hia)] at h
          have hOk := hO3 hLa
          subst hOk
          unfold upd
          by_cases hji : j = i
          · subst hji; rw [if_pos rfl]; exact hv
          · rw [if_neg hji]
            unfold lst at hj
            rw [if_neg hji] at hj
            exact Fq.stable _ (hfa j hj h1 h2) hb fun _ _ h => h
        · have hLa : L al = true := by unfold lst at h; rwa [if_neg (Ne.symm hia)] at h
          obtain ⟨k, h1, h2, h3, h5, hOk⟩ := hO4 hLa
          subst hOk
          refine ⟨k, ?_, h2, Nat.lt_of_lt_of_le h3 hb.size, fun _ => ⟨h5.below hb, fun j hj g1 g2 => ?_⟩, fun hh => ?_⟩
          · unfold upd; rw [if_neg (Ne.symm hia)]; exact h1
          · unfold upd
            by_cases hji : j = i
            · subst hji; rw [if_pos rfl]; exact hv
            · rw [if_neg hji]
              unfold lst at hj
              rw [if_neg hji] at hj
              exact Fq.stable _ (hfa j hj g1 g2) hb fun _ _ h => h
          · unfold lst at hh; rw [if_neg (Ne.symm his), hLst] at hh; cases hh
  · rintro L x W hall ⟨hB, -, -, -, ht⟩
    have hst' : L st = true := hall st hsst
    obtain ⟨k, h1, h2, h3, -, h4⟩ := ht (hall al has)
    obtain ⟨o, c, h5, h6, h7⟩ := h4 hst'
    exact hend x W k o c h1 hB h3 h5 h6 h7

end Go.Proofs.YtbnnjbfbifihaaaGreatDoor

/-
  A region that draws its order of evaluation, by facts of the operations' values: over whatever frame, its operations one by one.
-/
namespace Go.Proofs.YtbnnjbfbifihaaaGreatDoor
open Go.RowKit

/-- the slot of an operation -/
def dstOf (ops : Array Oper) (i : Nat) : Option Tmp := (ops[i]?).bind (·.dst)
/-- what a frame holds in a slot -/
def Act.at (a : Act) (d : Option Tmp) : Option Value := d.bind (a.tmps[·]?)

/-- a drawn region, by an invariant over which operations are done -/
theorem wp_region_state {P : Program} {ops : Array Oper} {Q : Exit → Act → World → Prop} {id : Nat} {a0 : Act} {w : World} (hm : P.follows .mixedOrders = true) (ho : ordered ops = true) (I : (Nat → Bool) → Act → World → Prop)
    (h0 : I (fun _ => false) a0 { w with drawn := w.drawn + 1 })
    (hstep : ∀ L i a w K, i < ops.size → L i = false → (∀ j, (depsOf ops i).contains j = true → L j = true) → I L a w → (∀ a' w', I (lst L i) a' w' → K a' w') → wpOp P ops Q i K a w)
    (hend : ∀ L a w, (∀ i, i < ops.size → L i = true) → I L a w → Q .normal a w) : (Code.region id ops true).wp P Q a0 w := by
  have key : ∀ fuel listed a w, listed.size = ops.size → listed.toList.count false ≤ fuel → I (fun j => listed.getD j false) a w → wpAny P .any ops Q fuel listed a w := by
    intro fuel
    induction fuel with
    | zero =>
      intro listed a w hsz hc hI
      have hr : Region.ready .any ops listed = [] := by
        refine List.eq_nil_iff_forall_not_mem.2 fun i hi => ?_
        obtain ⟨h1, h2, -⟩ := ready_spec hi
        have hi' : i < listed.size := by omega
        simp only [Array.getD_eq_getD_getElem?, Array.getElem?_eq_getElem hi', Option.getD_some] at h2
        have := count_less listed.toList i (by simp [hi', h2])
        omega
      exact ⟨hr, hend _ a w (ready_none ho hsz hr) hI⟩
    | succ f ih =>
      intro listed a w hsz hc hI
      refine ⟨fun hr => hend _ a w (ready_none ho hsz hr) hI, fun i hi => ?_⟩
      obtain ⟨h1, h2, h3⟩ := ready_spec hi
      have hi' : i < listed.size := by omega
      simp only [Array.getD_eq_getD_getElem?, Array.getElem?_eq_getElem hi', Option.getD_some] at h2
      refine hstep _ i a w _ h1 (by simp [Array.getD_eq_getD_getElem?, hi', h2]) (fun j hj => ?_) hI fun a' w' hv => ?_
      · obtain ⟨o, e, hoi, he, hb, rfl⟩ := depsOf_spec hj
        exact h3 o hoi e he hb
      · refine ih _ _ _ (by simpa using hsz) ?_ (by rw [getD_lst _ _ hi']; exact hv)
        have := count_less listed.toList i (by simp [hi', h2])
        simp only [Array.toList_setIfInBounds]
        omega
  refine wp_region_any hm ?_
  refine key ops.size (Array.replicate ops.size false) a0 _ (by simp) (Nat.le_trans List.count_le_length (by simp)) ?_
  have : (fun j => (Array.replicate ops.size false).getD j false) = fun _ => false := by
    funext j
    simp only [Array.getD_eq_getD_getElem?, Array.getElem?_replicate]
    split <;> rfl
  rw [this]
  exact h0

/-- the operations write different slots -/
def apartB (ops : Array Oper) : Bool := (List.range ops.size).all fun i => (List.range ops.size).all fun j => i == j || (dstOf ops i != dstOf ops j || dstOf ops i == none)
theorem apartB_spec {ops : Array Oper} (h : apartB ops = true) {i j : Nat} (hi : i < ops.size) (hj : j < ops.size) (hne : i ≠ j) {d : Tmp} (hd : dstOf ops i = some d) : dstOf ops j ≠ some d := by
  unfold apartB at h
  rw [List.all_eq_true] at h
  have h1 := h i (List.mem_range.2 hi)
  rw [List.all_eq_true] at h1
  have h2 := h1 j (List.mem_range.2 hj)
  intro e
  rw [hd, e] at h2
  simp [hne] at h2
/-- the slots that the operations write, all of them in the frame -/
def boundB (ops : Array Oper) (n : Nat) : Bool := (List.range ops.size).all fun i => match dstOf ops i with
  | some d => decide (d < n)
  | none => true
theorem boundB_spec {ops : Array Oper} {n : Nat} (h : boundB ops n = true) {i : Nat} (hi : i < ops.size) {d : Tmp} (hd : dstOf ops i = some d) : d < n := by
  unfold boundB at h
  rw [List.all_eq_true] at h
  have := h i (List.mem_range.2 hi)
  rw [hd] at this
  simpa using this

/-- a frame, with the values of the operations from some number on put into their slots -/
def putL (ops : Array Oper) (x : Nat → Value) : List Nat → Act → Act
  | [], a => a
  | i :: l, a => putL ops x l (a.put (dstOf ops i) (x i))
theorem put_size (a : Act) (d : Option Tmp) (v : Value) : (a.put d v).tmps.size = a.tmps.size := by cases d <;> simp [Act.put]
theorem put_defers (a : Act) (d : Option Tmp) (v : Value) : (a.put d v).defers = a.defers := by cases d <;> rfl
theorem put_at (a : Act) (d e : Tmp) (v : Value) : (a.put (some d) v).tmps[e]? = if d = e ∧ e < a.tmps.size then some v else a.tmps[e]? := by
  simp only [Act.put]
  rw [Array.getElem?_setIfInBounds]
  by_cases h : d = e
  · subst h
    by_cases h2 : d < a.tmps.size
    · simp [h2]
    · simp [h2]
  · simp [h]
theorem putL_keep {ops : Array Oper} {x : Nat → Value} : ∀ (l : List Nat) (a : Act), (putL ops x l a).tmps.size = a.tmps.size ∧ (putL ops x l a).defers = a.defers ∧
    (∀ e, (∀ i ∈ l, dstOf ops i ≠ some e) → (putL ops x l a).tmps[e]? = a.tmps[e]?)
  | [], a => ⟨rfl, rfl, fun _ _ => rfl⟩
  | i :: l, a => by
    obtain ⟨h1, h2, h3⟩ := putL_keep (ops := ops) (x := x) l (a.put (dstOf ops i) (x i))
    refine ⟨by rw [putL, h1, put_size], by rw [putL, h2, put_defers], fun e he => ?_⟩
    rw [putL, h3 e fun j hj => he j (List.mem_cons_of_mem _ hj)]
    cases hd : dstOf ops i with
    | none => rfl
    | some d =>
      rw [put_at, if_neg]
      rintro ⟨rfl, -⟩
      exact he i (List.mem_cons_self ..) hd
theorem putL_at {ops : Array Oper} {x : Nat → Value} (hap : apartB ops = true) : ∀ (l : List Nat) (a : Act), l.Nodup → (∀ i ∈ l, i < ops.size) → ∀ i ∈ l, ∀ d, dstOf ops i = some d → d < a.tmps.size → (putL ops x l a).tmps[d]? = some (x i)
  | [], _, _, _, i, hi, _, _, _ => by cases hi
  | j :: l, a, hn, hl, i, hi, d, hd, hsz => by
    obtain ⟨n1, n2⟩ := List.nodup_cons.1 hn
    rw [putL]
    by_cases hij : i = j
    · subst hij
      rw [(putL_keep l _).2.2 d fun k hk => apartB_spec hap (hl i (by simp)) (hl k (by simp [hk])) (fun e => n1 (e ▸ hk)) hd, hd, put_at, if_pos ⟨rfl, hsz⟩]
    · have hi' : i ∈ l := by rcases List.mem_cons.1 hi with h | h; exact absurd h hij; exact h
      exact putL_at hap l _ n2 (fun k hk => hl k (by simp [hk])) i hi' d hd (by rw [put_size]; exact hsz)
theorem act_ext {a b : Act} (h1 : a.tmps.size = b.tmps.size) (h2 : a.defers = b.defers) (h : ∀ e : Nat, a.tmps[e]? = b.tmps[e]?) : a = b := by
  cases a; cases b
  simp only at h1 h2 h
  subst h2
  congr
  exact Array.ext_getElem? h

/-- what an operation sees: a frame that is the region's first but for the slots that it writes, and the facts of what it waits for -/
structure Seen (ops : Array Oper) (fs : Nat → Fq) (a0 : Act) (w0 : World) (i : Nat) (a : Act) (W : World) : Prop where
  below : Below w0.heap.size w0 W
  size : a.tmps.size = a0.tmps.size
  old : ∀ e, (∀ j, j < ops.size → dstOf ops j ≠ some e) → a.tmps[e]? = a0.tmps[e]?
  new : ∀ j d, (depsOf ops i).contains j = true → dstOf ops j = some d → ∃ v, a.tmps[d]? = some v ∧ (fs j).holds (fun _ => True) v W

/-- a drawn region of facts -/
theorem wp_region_facts {P : Program} {ops : Array Oper} {Q : Exit → Act → World → Prop} {id : Nat} {a0 : Act} {w0 : World} (hm : P.follows .mixedOrders = true) (ho : ordered ops = true) (hap : apartB ops = true) (hbd : boundB ops a0.tmps.size = true) (hdl : (List.range ops.size).all (fun i => (depsOf ops i).all fun j => decide (j < ops.size)) = true) (fs : Nat → Fq)
    (hstep : ∀ i a W K, i < ops.size → Seen ops fs a0 w0 i a W → (∀ v w', (fs i).holds (fun _ => True) v w' → Below W.heap.size W w' → K (a.put (dstOf ops i) v) w') → wpOp P ops Q i K a W)
    (hend : ∀ x W, Below w0.heap.size w0 W → (∀ i d, i < ops.size → dstOf ops i = some d → (fs i).holds (fun _ => True) (x i) W) → Q .normal (putL ops x (List.range ops.size) a0) W) : (Code.region id ops true).wp P Q a0 w0 := by
  refine wp_region_state hm ho (fun L a W => Below w0.heap.size w0 W ∧ a.tmps.size = a0.tmps.size ∧ a.defers = a0.defers ∧ (∀ e, (∀ j, j < ops.size → dstOf ops j ≠ some e) → a.tmps[e]? = a0.tmps[e]?) ∧
    (∀ j d, j < ops.size → L j = true → dstOf ops j = some d → ∃ v, a.tmps[d]? = some v ∧ (fs j).holds (fun _ => True) v W)) ⟨(Below.refl _ _).drew, rfl, rfl, fun _ _ => rfl, fun j d _ h => by cases h⟩ ?_ ?_
  · rintro L i a W K hi hL hd ⟨hB, hsz, hdf, hold, hnew⟩ hK
    have hdeps : ∀ j, (depsOf ops i).contains j = true → j < ops.size := fun j hj => by
      rw [List.all_eq_true] at hdl
      have := hdl i (List.mem_range.2 hi)
      rw [List.all_eq_true] at this
      simpa using this j (by simpa using hj)
    refine hstep i a W K hi ⟨hB, hsz, hold, fun j d hj hjd => hnew j d (hdeps j hj) (hd j hj) hjd⟩ fun v w' hv hb => hK _ _ ⟨hB.trans (hb.mono hB.size), by rw [put_size, hsz], by rw [put_defers, hdf], fun e he => ?_, fun j d hj hLj hjd => ?_⟩
    · cases hdi : dstOf ops i with
      | none => exact hold e he
      | some d =>
        rw [put_at, if_neg]
        · exact hold e he
        · rintro ⟨rfl, -⟩
          exact he i hi hdi
    · by_cases hji : j = i
      · subst hji
        rw [hjd, put_at, if_pos ⟨rfl, by rw [hsz]; exact boundB_spec hbd hj hjd⟩]
        exact ⟨v, rfl, hv⟩
      · have hLj' : L j = true := by unfold lst at hLj; rwa [if_neg hji] at hLj
        obtain ⟨u, hu, hf⟩ := hnew j d hj hLj' hjd
        refine ⟨u, ?_, Fq.stable _ hf hb fun _ _ h => h⟩
        cases hdi : dstOf ops i with
        | none => exact hu
        | some d' =>
          rw [put_at, if_neg]
          · exact hu
          · rintro ⟨rfl, -⟩
            exact apartB_spec hap hi hj (Ne.symm hji) hdi hjd
  · rintro L a W hall ⟨hB, hsz, hdf, hold, hnew⟩
    have key : a = putL ops (fun i => (Act.at a (dstOf ops i)).getD undef) (List.range ops.size) a0 := by
      obtain ⟨k1, k2, k3⟩ := putL_keep (ops := ops) (x := fun i => (Act.at a (dstOf ops i)).getD undef) (List.range ops.size) a0
      refine act_ext (by rw [k1, hsz]) (by rw [k2, hdf]) fun e => ?_
      by_cases he : ∃ j, j < ops.size ∧ dstOf ops j = some e
      · obtain ⟨j, hj, hje⟩ := he
        obtain ⟨v, hv, -⟩ := hnew j e hj (hall j hj) hje
        rw [putL_at hap (List.range ops.size) a0 List.nodup_range (fun i hi => List.mem_range.1 hi) j (List.mem_range.2 hj) e hje (boundB_spec hbd hj hje), hv, hje]
        simp [Act.at, hv]
      · have he' : ∀ j, j < ops.size → dstOf ops j ≠ some e := fun j hj h => he ⟨j, hj, h⟩
        rw [k3 e fun i hi => he' i (List.mem_range.1 hi)]
        exact hold e he'
    rw [key]
    refine hend _ W hB fun i d hi hid => ?_
    obtain ⟨v, hv, hf⟩ := hnew i d hi (hall i hi) hid
    rw [hid]
    simp only [Act.at, Option.bind_some, hv, Option.getD_some]
    exact hf

end Go.Proofs.YtbnnjbfbifihaaaGreatDoor
