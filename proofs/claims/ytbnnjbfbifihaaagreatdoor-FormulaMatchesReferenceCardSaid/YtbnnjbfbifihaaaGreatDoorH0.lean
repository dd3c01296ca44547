/-
  Contracts that FormulaMatchesReference stands on, part H0.
-/
import Derived.Test.YtbnnjbfbifihaaaGreatDoorFjB
import Derived.Test.YtbnnjbfbifihaaaGreatDoorGp
namespace Go.Proofs.YtbnnjbfbifihaaaGreatDoor
open Go.RowKit
set_option maxRecDepth 100000
set_option maxHeartbeats 80000000

def Fq.still : Fq → Bool
  | .boolF _ | .intF _ | .valF _ | .free => true
  | _ => false
theorem Fq.any {Ok : Nat → Prop} {f : Fq} (hs : f.still = true) {v : Value} {W W' : World} (h : f.holds Ok v W) : f.holds Ok v W' := by
  cases f <;> first | exact h | cases hs
structure SeenO (Ok : Nat → Prop) (ops : Array Oper) (fs : Nat → Fq) (a0 : Act) (w0 : World) (i : Nat) (a : Act) (W : World) : Prop where
  below : Below w0.heap.size w0 W
  size : a.tmps.size = a0.tmps.size
  old : ∀ e, (∀ j, j < ops.size → dstOf ops j ≠ some e) → a.tmps[e]? = a0.tmps[e]?
  new : ∀ j d, (depsOf ops i).contains j = true → dstOf ops j = some d → ∃ v, a.tmps[d]? = some v ∧ (fs j).holds Ok v W
theorem old_slot {ops : Array Oper} {a0 a : Act} {e : Tmp} {v : Value} (h : ∀ e, (∀ j, j < ops.size → dstOf ops j ≠ some e) → a.tmps[e]? = a0.tmps[e]?) (hf : freeB ops e = true) (h0 : a0.tmps[e]? = some v) : a.tmps[e]? = some v := by
  rw [h e fun j hj hd => ?_, h0]
  unfold freeB at hf
  rw [List.all_eq_true] at hf
  have := hf j (List.mem_range.2 hj)
  rw [hd] at this
  simp at this
theorem SeenO.slot {Ok : Nat → Prop} {ops : Array Oper} {fs : Nat → Fq} {a0 : Act} {w0 : World} {i : Nat} {a : Act} {W : World} (h : SeenO Ok ops fs a0 w0 i a W) {e : Tmp} {v : Value} (hf : freeB ops e = true) (h0 : a0.tmps[e]? = some v) : a.tmps[e]? = some v := old_slot h.old hf h0
theorem SeenO.got {Ok : Nat → Prop} {ops : Array Oper} {fs : Nat → Fq} {a0 : Act} {w0 : World} {i : Nat} {a : Act} {W : World} (h : SeenO Ok ops fs a0 w0 i a W) (j : Nat) {d : Tmp} {q : Fq} (hq : fs j = q) (hj : (depsOf ops i).contains j = true) (hd : dstOf ops j = some d) : ∃ v, a.tmps[d]? = some v ∧ q.holds Ok v W := by
  subst hq; exact h.new j d hj hd
def tailB (ops : Array Oper) (fs : Nat → Fq) (ap st : Nat) : Bool :=
  (List.range ops.size).all fun i => i == st || i == ap || (fs i).still || (reachL ops 8 (depsOf ops ap)).contains i
def tailB2 (ops : Array Oper) (ap st : Nat) : Bool :=
  ((reachL ops 8 (depsOf ops st)).contains ap) && ((List.range ops.size).all fun i => i == st || (reachL ops 8 (depsOf ops st)).contains i)
theorem wp_region_tail {P : Program} {ops : Array Oper} {Q : Exit → Act → World → Prop} {id : Nat} {a0 : Act} {w0 : World} (hm : P.follows .mixedOrders = true) (ho : ordered ops = true) (hap : apartB ops = true) (hbd : boundB ops a0.tmps.size = true) (hdl : (List.range ops.size).all (fun i => (depsOf ops i).all fun j => decide (j < ops.size)) = true) (fs : Nat → Fq) (Ok : Nat → Prop)
    (ap st : Nat) (da : Tmp) (has : ap < ops.size) (hst0 : st < ops.size) (hne : ap ≠ st) (hda : dstOf ops ap = some da) (htl : tailB ops fs ap st = true) (htl2 : tailB2 ops ap st = true)
    (Pa : Value → World → Prop) (Ps : Value → World → Prop)
    (hstep : ∀ i a W K, i < ops.size → i ≠ ap → i ≠ st → SeenO Ok ops fs a0 w0 i a W → (∀ v w', (fs i).holds Ok v w' → Below W.heap.size W w' → K (a.put (dstOf ops i) v) w') → wpOp P ops Q i K a W)
    (hpure : ∀ i a W K, i < ops.size → i ≠ ap → i ≠ st → (fs i).still = true → a.tmps.size = a0.tmps.size → (∀ e, (∀ j, j < ops.size → dstOf ops j ≠ some e) → a.tmps[e]? = a0.tmps[e]?) →
      (∀ j d, (depsOf ops i).contains j = true → dstOf ops j = some d → (fs j).still = true → j ≠ ap → ∃ v, a.tmps[d]? = some v ∧ (fs j).holds Ok v W) → (reachL ops 8 (depsOf ops ap)).contains i = false → (∃ v, Pa v W) →
      (∀ v, (fs i).holds Ok v W → K (a.put (dstOf ops i) v) W) → wpOp P ops Q i K a W)
    (hapx : ∀ a W K, SeenO Ok ops fs a0 w0 ap a W → (∀ v w', Pa v w' → K (a.put (some da) v) w') → wpOp P ops Q ap K a W)
    (hstx : ∀ a W K v, a.tmps.size = a0.tmps.size → (∀ e, (∀ j, j < ops.size → dstOf ops j ≠ some e) → a.tmps[e]? = a0.tmps[e]?) → (∀ j d, j < ops.size → j ≠ ap → (fs j).still = true → dstOf ops j = some d → ∃ v, a.tmps[d]? = some v ∧ (fs j).holds Ok v W) →
      a.tmps[da]? = some v → Pa v W → (∀ w', Ps v w' → K (a.put (dstOf ops st) undef) w') → wpOp P ops Q st K a W)
    (hend : ∀ x W, Ps (x ap) W → Q .normal (putL ops x (List.range ops.size) a0) W) (hdst : dstOf ops st = none) : (Code.region id ops true).wp P Q a0 w0 := by
  have hall : ∀ i, i < ops.size → i ≠ st → i ≠ ap → (fs i).still = false → (reachL ops 8 (depsOf ops ap)).contains i = true := fun i hi h1 h2 h3 => by
    unfold tailB at htl
    rw [List.all_eq_true] at htl
    have := htl i (List.mem_range.2 hi)
    simpa [h1, h2, h3] using this
  unfold tailB2 at htl2
  rw [Bool.and_eq_true] at htl2
  obtain ⟨hsa, hsl⟩ := htl2
  have hdeps : ∀ i, i < ops.size → ∀ j, (depsOf ops i).contains j = true → j < ops.size := fun i hi j hj => by
    rw [List.all_eq_true] at hdl
    have := hdl i (List.mem_range.2 hi)
    rw [List.all_eq_true] at this
    simpa using this j (by simpa using hj)
  refine wp_region_state hm ho (fun L a W => a.tmps.size = a0.tmps.size ∧ a.defers = a0.defers ∧ (∀ e, (∀ j, j < ops.size → dstOf ops j ≠ some e) → a.tmps[e]? = a0.tmps[e]?) ∧ (∀ i, L i = true → ∀ j, (depsOf ops i).contains j = true → L j = true) ∧
    (∀ j d, j < ops.size → j ≠ ap → L j = true → dstOf ops j = some d → ∃ v, a.tmps[d]? = some v ∧ ((fs j).still = true → (fs j).holds Ok v W)) ∧
    (L ap = false → Below w0.heap.size w0 W ∧ (∀ j d, j < ops.size → j ≠ ap → L j = true → dstOf ops j = some d → ∃ v, a.tmps[d]? = some v ∧ (fs j).holds Ok v W)) ∧
    (L ap = true → (∃ v, a.tmps[da]? = some v ∧ (L st = false → Pa v W) ∧ (L st = true → Ps v W))) ∧ (L st = true → ∀ i, i < ops.size → L i = true))
    ⟨rfl, rfl, fun _ _ => rfl, (fun i h => by cases h), (fun j d _ _ h => by cases h), fun _ => ⟨(Below.refl _ _).drew, fun j d _ _ h => by cases h⟩, (fun h => by cases h), (fun h => by cases h)⟩ ?_ ?_
  · rintro L i a W K hi hL hd ⟨hsz, hdf, hold, hcl, hval, hpre, hpost, hfin⟩ hK
    have hLst : L st = false := by
      cases h : L st
      · rfl
      · have := hfin h i hi; rw [hL] at this; cases this
    have hcl' : ∀ b, lst L i b = true → ∀ j, (depsOf ops b).contains j = true → lst L i j = true := by
      intro b hb j hj
      unfold lst at hb ⊢
      split
      · rfl
      · split at hb
        · next h => subst h; exact hd j hj
        · exact hcl b hb j hj
    have hold' : ∀ v, ∀ e, (∀ j, j < ops.size → dstOf ops j ≠ some e) → (a.put (dstOf ops i) v).tmps[e]? = a0.tmps[e]? := fun v e he => by
      cases hdi : dstOf ops i with
      | none => exact hold e he
      | some d =>
        rw [put_at, if_neg]
        · exact hold e he
        · rintro ⟨rfl, -⟩
          exact he i hi hdi
    have hslot : ∀ v j d, j < ops.size → j ≠ i → dstOf ops j = some d → (a.put (dstOf ops i) v).tmps[d]? = a.tmps[d]? := fun v j d hj hji hjd => by
      cases hdi : dstOf ops i with
      | none => rfl
      | some d' =>
        rw [put_at, if_neg]
        rintro ⟨rfl, -⟩
        exact apartB_spec hap hi hj (Ne.symm hji) hdi hjd
    have hown : ∀ v d, dstOf ops i = some d → (a.put (dstOf ops i) v).tmps[d]? = some v := fun v d hid => by
      rw [hid, put_at, if_pos ⟨rfl, by rw [hsz]; exact boundB_spec hbd hi hid⟩]
    have hvalS : ∀ W' v j d, j < ops.size → j ≠ ap → j ≠ i → lst L i j = true → dstOf ops j = some d → ∃ u, (a.put (dstOf ops i) v).tmps[d]? = some u ∧ ((fs j).still = true → (fs j).holds Ok u W') := fun W' v j d hj hja hji hLj hjd => by
      have hLj' : L j = true := by unfold lst at hLj; rwa [if_neg hji] at hLj
      obtain ⟨u, hu, hf⟩ := hval j d hj hja hLj' hjd
      exact ⟨u, by rw [hslot v j d hj hji hjd, hu], fun hs => Fq.any hs (hf hs)⟩
    by_cases hia : i = ap
    · subst hia
      obtain ⟨hB, hnew⟩ := hpre hL
      refine hapx a W K ⟨hB, hsz, hold, fun j d hj hjd => hnew j d (hdeps i hi j hj) ?_ (hd j hj) hjd⟩ fun v w' hv => ?_
      · rintro rfl
        have := hd _ hj
        rw [hL] at this; cases this
      · have e0 : (a.put (some da) v) = a.put (dstOf ops i) v := by rw [hda]
        rw [e0]
        refine hK _ _ ⟨by rw [put_size, hsz], by rw [put_defers, hdf], hold' v, hcl', fun j d hj hja hLj hjd => hvalS w' v j d hj hja hja hLj hjd, fun h => ?_, fun _ => ⟨v, hown v da hda, fun _ => hv, fun h => ?_⟩, fun h => ?_⟩
        · unfold lst at h; rw [if_pos rfl] at h; cases h
        · unfold lst at h; rw [if_neg (Ne.symm hne), hLst] at h; cases h
        · unfold lst at h; rw [if_neg (Ne.symm hne), hLst] at h; cases h
    · by_cases his : i = st
      · subst his
        have hLall : ∀ j, j < ops.size → j ≠ i → L j = true := fun j hj hji => by
          rw [List.all_eq_true] at hsl
          have h1 := hsl j (List.mem_range.2 hj)
          simp only [Bool.or_eq_true, beq_iff_eq] at h1
          exact reachL_done hcl 8 _ (fun q hq => hd q (by simpa using hq)) j (by simpa using h1.resolve_left hji)
        have hLap := hLall ap has hne
        obtain ⟨v, hv, hPv, -⟩ := hpost hLap
        refine hstx a W K v hsz hold (fun j d hj hja hs hjd => ?_) hv (hPv hL) fun w' hw' => ?_
        · have hji : j ≠ i := fun e => by rw [e, hdst] at hjd; cases hjd
          obtain ⟨u, hu, hf⟩ := hval j d hj hja (hLall j hj hji) hjd
          exact ⟨u, hu, hf hs⟩
        · refine hK _ _ ⟨by rw [put_size, hsz], by rw [put_defers, hdf], hold' undef, hcl', fun j d hj hja hLj hjd => ?_, fun h => ?_, fun _ => ⟨v, by rw [hslot undef ap da has hne hda, hv], fun h => ?_, fun _ => hw'⟩, fun _ j hj => ?_⟩
          · exact hvalS w' undef j d hj hja (fun e => by rw [e, hdst] at hjd; cases hjd) hLj hjd
          · unfold lst at h; rw [if_neg hne, hLap] at h; cases h
          · unfold lst at h; rw [if_pos rfl] at h; cases h
          · unfold lst
            split
            · rfl
            · next h => exact hLall j hj h
      · cases hLa : L ap
        · obtain ⟨hB, hnew⟩ := hpre hLa
          refine hstep i a W K hi hia his ⟨hB, hsz, hold, fun j d hj hjd => hnew j d (hdeps i hi j hj) ?_ (hd j hj) hjd⟩ fun v w' hv hb => hK _ _ ⟨by rw [put_size, hsz], by rw [put_defers, hdf], hold' v, hcl', fun j d hj hja hLj hjd => ?_, fun _ => ⟨hB.trans (hb.mono hB.size), fun j d hj hja hLj hjd => ?_⟩, fun h => ?_, fun h => ?_⟩
          · rintro rfl
            have := hd _ hj
            rw [hLa] at this; cases this
          · by_cases hji : j = i
            · subst hji; exact ⟨v, hown v d hjd, fun _ => hv⟩
            · exact hvalS w' v j d hj hja hji hLj hjd
          · by_cases hji : j = i
            · subst hji; exact ⟨v, hown v d hjd, hv⟩
            · have hLj' : L j = true := by unfold lst at hLj; rwa [if_neg hji] at hLj
              obtain ⟨u, hu, hf⟩ := hnew j d hj hja hLj' hjd
              exact ⟨u, by rw [hslot v j d hj hji hjd, hu], Fq.stable _ hf hb fun _ _ h => h⟩
          · unfold lst at h; rw [if_neg (Ne.symm hia), hLa] at h; cases h
          · unfold lst at h; rw [if_neg (Ne.symm his), hLst] at h; cases h
        · have hnr : (reachL ops 8 (depsOf ops ap)).contains i = false := by
            cases h : (reachL ops 8 (depsOf ops ap)).contains i
            · rfl
            · have := reachL_done hcl 8 (depsOf ops ap) (fun q hq => hcl ap hLa q (by simpa using hq)) i (by simpa using h)
              rw [hL] at this; cases this
          have hs : (fs i).still = true := by
            cases h : (fs i).still
            · have := hall i hi his hia h; rw [hnr] at this; cases this
            · rfl
          obtain ⟨v0, hv0, hPv, -⟩ := hpost hLa
          refine hpure i a W K hi hia his hs hsz hold (fun j d hj hjd hsj hja => ?_) hnr ⟨v0, hPv hLst⟩ fun v hv => hK _ _ ⟨by rw [put_size, hsz], by rw [put_defers, hdf], hold' v, hcl', fun j d hj hja hLj hjd => ?_, fun h => ?_, fun _ => ⟨v0, by rw [hslot v ap da has (Ne.symm hia) hda, hv0], fun _ => hPv hLst, fun h => ?_⟩, fun h => ?_⟩
          · obtain ⟨u, hu, hf⟩ := hval j d (hdeps i hi j hj) hja (hd j hj) hjd
            exact ⟨u, hu, hf hsj⟩
          · by_cases hji : j = i
            · subst hji; exact ⟨v, hown v d hjd, fun _ => hv⟩
            · exact hvalS W v j d hj hja hji hLj hjd
          · unfold lst at h; rw [if_neg (Ne.symm hia), hLa] at h; cases h
          · unfold lst at h; rw [if_neg (Ne.symm his), hLst] at h; cases h
          · unfold lst at h; rw [if_neg (Ne.symm his), hLst] at h; cases h
  · rintro L a W hall2 ⟨hsz, hdf, hold, -, hval, -, hpost, hfin⟩
    have hLst := hall2 st hst0
    have key : a = putL ops (fun i => (Act.at a (dstOf ops i)).getD undef) (List.range ops.size) a0 := by
      obtain ⟨k1, k2, k3⟩ := putL_keep (ops := ops) (x := fun i => (Act.at a (dstOf ops i)).getD undef) (List.range ops.size) a0
      refine act_ext (by rw [k1, hsz]) (by rw [k2, hdf]) fun e => ?_
      by_cases he : ∃ j, j < ops.size ∧ dstOf ops j = some e
      · obtain ⟨j, hj, hje⟩ := he
        have hex : ∃ v, a.tmps[e]? = some v := by
          by_cases hja : j = ap
          · subst hja
            obtain ⟨v, hv, -, -⟩ := hpost (hall2 j hj)
            rw [hda] at hje; cases hje
            exact ⟨v, hv⟩
          · obtain ⟨v, hv, -⟩ := hval j e hj hja (hall2 j hj) hje
            exact ⟨v, hv⟩
        obtain ⟨v, hv⟩ := hex
        rw [putL_at hap (List.range ops.size) a0 List.nodup_range (fun i hi => List.mem_range.1 hi) j (List.mem_range.2 hj) e hje (boundB_spec hbd hj hje), hv, hje]
        simp [Act.at, hv]
      · have he' : ∀ j, j < ops.size → dstOf ops j ≠ some e := fun j hj h => he ⟨j, hj, h⟩
        rw [k3 e fun i hi => he' i (List.mem_range.1 hi)]
        exact hold e he'
    rw [key]
    refine hend _ W ?_
    obtain ⟨v, hv, -, hp⟩ := hpost (hall2 ap has)
    rw [hda]
    simp only [Act.at, Option.bind_some, hv, Option.getD_some]
    exact hp hLst
def boxO (f : Fm) (o : Option Addr) (c : Nat) : Obj := .cells #[.int .i64 f.op, .string f.name, .int .i64 f.val, .int .i64 f.bound, .slice o f.args.length c] 24
theorem bx_alloc {w : World} {f : Fm} {o : Option Addr} {c : Nat} (hf : Fits f) (ha : FArgsP (fun b => b < w.heap.size ∧ True) w (.slice o f.args.length c) f.args) :
    Below w.heap.size w (w.alloc (boxO f o c)) ∧ Bx (w.alloc (boxO f o c)) w.heap.size f := by
  have hB := below_box w (boxO f o c)
  have hz : (w.alloc (boxO f o c)).heap.size = w.heap.size + 1 := by simp
  refine ⟨hB, by omega, o, c, box5 w _ _ _ _ _ 24, hf, (FArgsP.kept ha hB fun b hb => hb.1).mono fun b hb => by omega⟩
theorem bx_more {w : World} {f : Fm} {k : Nat} {ob : Obj} (h : Bx w k f) : Bx (w.alloc ob) k f := h.below (below_box w ob)
theorem fat_open {w : World} {v : Value} {f : Fm} (h : FAt w.heap.size w v f) : ∃ o c, v = .agg #[.int .i64 f.op, .string f.name, .int .i64 f.val, .int .i64 f.bound, .slice o f.args.length c] ∧ Fits f ∧ FArgsP (fun b => b < w.heap.size ∧ True) w (.slice o f.args.length c) f.args := by
  obtain ⟨o, c, rfl, h1, h2⟩ := h.open
  exact ⟨o, c, rfl, h1, FArgsP.mono h2 fun b hb => ⟨hb, trivial⟩⟩
theorem fargs_more {w : World} {f : Fm} {sl : Value} {ob : Obj} (h : FArgsP (fun b => b < w.heap.size ∧ True) w sl f.args) : FArgsP (fun b => b < (w.alloc ob).heap.size ∧ True) (w.alloc ob) sl f.args :=
  (FArgsP.kept h (below_box w ob) fun _ hb => hb.1).mono fun _ hb => ⟨Nat.lt_of_lt_of_le hb.1 (below_box w ob).size, trivial⟩
theorem bx2_open {w : World} {v1 v2 : Value} {f g : Fm} (h1 : FAt w.heap.size w v1 f) (h2 : FAt w.heap.size w v2 g) : ∃ o1 c1 o2 c2, v1 = .agg #[.int .i64 f.op, .string f.name, .int .i64 f.val, .int .i64 f.bound, .slice o1 f.args.length c1] ∧ v2 = .agg #[.int .i64 g.op, .string g.name, .int .i64 g.val, .int .i64 g.bound, .slice o2 g.args.length c2] ∧
    ∃ W0, Hid ((w.alloc (boxO f o1 c1)).alloc (boxO g o2 c2) = W0) ∧ Below w.heap.size w W0 ∧ Hid (Bx W0 w.heap.size f) ∧ Hid (Bx W0 (w.heap.size + 1) g) := by
  obtain ⟨o1, c1, rfl, q1, a1⟩ := fat_open h1
  obtain ⟨o2, c2, rfl, q2, a2⟩ := fat_open h2
  obtain ⟨b1, x1⟩ := bx_alloc q1 a1
  obtain ⟨b2, x2⟩ := bx_alloc (w := w.alloc (boxO f o1 c1)) q2 (fargs_more a2)
  have hz : (w.alloc (boxO f o1 c1)).heap.size = w.heap.size + 1 := by simp
  rw [hz] at x2
  exact ⟨o1, c1, o2, c2, rfl, rfl, _, hidi rfl, b1.trans (b2.mono (by omega)), hidi (bx_more x1), hidi x2⟩
theorem bx_new {w : World} {v : Value} {f : Fm} (h : (Fq.fmF f).holds (fun _ => True) v w) : ∃ o c, v = .agg #[.int .i64 f.op, .string f.name, .int .i64 f.val, .int .i64 f.bound, .slice o f.args.length c] ∧
    ∃ W, Hid (w.alloc (boxO f o c) = W) ∧ Below w.heap.size w W ∧ Hid (Bx W w.heap.size f) ∧ Hid (W.heap.size = w.heap.size + 1) := by
  obtain ⟨o, c, rfl, h1, h2⟩ := fq_open h
  obtain ⟨b, x⟩ := bx_alloc h1 h2
  exact ⟨o, c, rfl, _, hidi rfl, b, hidi x, hidi (by simp)⟩

end Go.Proofs.YtbnnjbfbifihaaaGreatDoor
