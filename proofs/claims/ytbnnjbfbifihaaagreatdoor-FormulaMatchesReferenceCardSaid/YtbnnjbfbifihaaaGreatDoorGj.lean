/-
  Contracts that the formula laws stand on, part Gj.
-/
import Derived.Test.YtbnnjbfbifihaaaGreatDoorFmN
import Derived.Sort.KeysCollected
import Derived.Sort.Walk0
import Derived.Maps.OwnIn
import Derived.Maps.OwnSet
import Derived.Test.YtbnnjbfbifihaaaGreatDoorGc
import Derived.Test.YtbnnjbfbifihaaaGreatDoorGf
import Derived.Test.YtbnnjbfbifihaaaGreatDoorGd

/-
  The names of a formula as a plain function: sorted, each once, those of its nodes.
-/
namespace Go.Proofs.YtbnnjbfbifihaaaGreatDoor

def lessN (a b : ByteArray) : Bool := Op.bytesLess a.toList b.toList
theorem lessN_lt (a b : ByteArray) : lessN a b = true ↔ a.toList < b.toList := by unfold lessN; rw [Go.Proofs.bytesLess_eq]; simp
theorem lessN_irrefl (a : ByteArray) : lessN a a = false := by
  cases h : lessN a a
  · rfl
  · exact absurd ((lessN_lt a a).1 h) (List.lt_irrefl _)
theorem lessN_trans {a b c : ByteArray} (h1 : lessN a b = true) (h2 : lessN b c = true) : lessN a c = true := (lessN_lt a c).2 (List.lt_trans ((lessN_lt a b).1 h1) ((lessN_lt b c).1 h2))
theorem lessN_total {a b : ByteArray} (h : lessN a b = false) (hne : a ≠ b) : lessN b a = true := by
  rw [lessN_lt]
  have h1 : ¬ a.toList < b.toList := fun e => by rw [(lessN_lt a b).2 e] at h; cases h
  rcases List.le_iff_lt_or_eq.1 (List.not_lt.1 h1) with h2 | h2
  · exact h2
  · exact absurd (bytes_inj h2.symm) hne

/-- strictly ascending strings -/
def AscN (l : List ByteArray) : Prop := l.Pairwise fun a b => lessN a b = true
theorem ascN_unique : ∀ {l m : List ByteArray}, AscN l → AscN m → (∀ x, x ∈ l ↔ x ∈ m) → l = m
  | [], [], _, _, _ => rfl
  | [], y :: m, _, _, h => absurd ((h y).2 (by simp)) (by simp)
  | x :: l, [], _, _, h => absurd ((h x).1 (by simp)) (by simp)
  | x :: l, y :: m, hl, hm, h => by
    obtain ⟨l1, l2⟩ := List.pairwise_cons.1 hl
    obtain ⟨m1, m2⟩ := List.pairwise_cons.1 hm
    have e : x = y := by
      rcases List.mem_cons.1 ((h x).1 (by simp)) with e | hx
      · exact e
      · rcases List.mem_cons.1 ((h y).2 (by simp)) with e | hy
        · exact e.symm
        · have := lessN_trans (l1 y hy) (m1 x hx)
          rw [lessN_irrefl] at this; cases this
    subst e
    rw [ascN_unique l2 m2 fun z => ?_]
    constructor
    · intro hz
      rcases List.mem_cons.1 ((h z).1 (by simp [hz])) with e | h1
      · have := l1 z hz; rw [e, lessN_irrefl] at this; cases this
      · exact h1
    · intro hz
      rcases List.mem_cons.1 ((h z).2 (by simp [hz])) with e | h1
      · have := m1 z hz; rw [e, lessN_irrefl] at this; cases this
      · exact h1

/-- a string put into a sorted list -/
def putN (s : ByteArray) : List ByteArray → List ByteArray
  | [] => [s]
  | x :: l => if x = s then x :: l else if lessN x s = true then x :: putN s l else s :: x :: l
theorem mem_putN {s z : ByteArray} : ∀ {l : List ByteArray}, z ∈ putN s l ↔ z = s ∨ z ∈ l
  | [] => by simp [putN]
  | x :: l => by
    unfold putN
    split
    · next h => subst h; simp
    · split
      · rw [List.mem_cons, mem_putN, List.mem_cons]
        constructor
        · rintro (h | h | h)
          · exact .inr (.inl h)
          · exact .inl h
          · exact .inr (.inr h)
        · rintro (h | h | h)
          · exact .inr (.inl h)
          · exact .inl h
          · exact .inr (.inr h)
      · simp
theorem asc_putN {s : ByteArray} : ∀ {l : List ByteArray}, AscN l → AscN (putN s l)
  | [], _ => by simp [putN, AscN]
  | x :: l, h => by
    obtain ⟨h1, h2⟩ := List.pairwise_cons.1 h
    unfold putN
    split
    · exact h
    · next hne =>
      split
      · next hx =>
        refine List.pairwise_cons.2 ⟨fun z hz => ?_, asc_putN h2⟩
        rcases mem_putN.1 hz with rfl | hz
        · exact hx
        · exact h1 z hz
      · next hx =>
        have hsx := lessN_total (by simpa using hx) hne
        refine List.pairwise_cons.2 ⟨fun z hz => ?_, h⟩
        rcases List.mem_cons.1 hz with rfl | hz
        · exact hsx
        · exact lessN_trans hsx (h1 z hz)

theorem beq_toList {x s : ByteArray} : (x.toList == s.toList) = true ↔ x = s := by
  rw [beq_iff_eq]
  exact ⟨bytes_inj, fun e => by rw [e]⟩
/-- behind those that are less, none is -/
theorem insFrom_ge {l0 : List ByteArray} {s : ByteArray} : ∀ {r out : List ByteArray}, (∀ x ∈ r, lessN s x = true) → insFrom l0 s r out = out ++ s :: l0.drop out.length
  | [], out, _ => by rw [insFrom]
  | x :: r, out, h => by
    have hx := h x (by simp)
    have hne : ¬ x = s := fun e => by rw [e, lessN_irrefl] at hx; cases hx
    have hnl : lessN x s = false := by
      cases h' : lessN x s
      · rfl
      · have := lessN_trans hx h'; rw [lessN_irrefl] at this; cases this
    rw [insFrom, if_neg (fun e => hne (beq_toList.1 e)), if_neg (by unfold lessN at hnl; rw [hnl]; simp)]
    exact insFrom_ge fun y hy => h y (by simp [hy])
theorem insFrom_put {l0 : List ByteArray} {s : ByteArray} : ∀ {r out : List ByteArray}, l0 = out ++ r → AscN r → insFrom l0 s r out = out ++ putN s r
  | [], out, e, _ => by
    rw [insFrom, putN, e, List.append_nil, List.drop_length]
  | x :: r, out, e, h => by
    obtain ⟨h1, h2⟩ := List.pairwise_cons.1 h
    rw [insFrom, putN]
    by_cases hx : x = s
    · rw [if_pos (beq_toList.2 hx), if_pos hx]; exact e
    · rw [if_neg (fun e => hx (beq_toList.1 e)), if_neg hx]
      by_cases hl : lessN x s = true
      · rw [if_pos (by unfold lessN at hl; exact hl), if_pos hl, insFrom_put (by rw [e]; simp) h2]
        simp
      · have hsx := lessN_total (by simpa using hl) hx
        rw [if_neg (by unfold lessN at hl; exact hl), if_neg hl, insFrom_ge fun y hy => lessN_trans hsx (h1 y hy), e]
        simp
theorem insL_put {l : List ByteArray} {s : ByteArray} (h : AscN l) : insL l s = putN s l := by
  unfold insL
  rw [insFrom_put (by simp) h]
  rfl

/-- the names of some nodes -/
def nameOf (l : List PN) (x : ByteArray) : Prop := ∃ y ∈ l, y.1.op = 3 ∧ y.1.name = x
theorem nameOf_append {a b : List PN} {x : ByteArray} : nameOf (a ++ b) x ↔ nameOf a x ∨ nameOf b x := by
  unfold nameOf
  constructor
  · rintro ⟨y, hy, h⟩
    rcases List.mem_append.1 hy with hy | hy
    · exact .inl ⟨y, hy, h⟩
    · exact .inr ⟨y, hy, h⟩
  · rintro (⟨y, hy, h⟩ | ⟨y, hy, h⟩)
    · exact ⟨y, List.mem_append_left _ hy, h⟩
    · exact ⟨y, List.mem_append_right _ hy, h⟩
theorem namedF_spec (f : Fm) : ∀ (d : Nat) (p : Bool) (l : List ByteArray), AscN l → AscN (namedF f l) ∧ ∀ x, x ∈ namedF f l ↔ x ∈ l ∨ nameOf (nodesP f d p) x := by
  induction f using Fm.ind with
  | h f ih =>
    have hs : ∀ (r : List Fm), (∀ g ∈ r, g ∈ f.args) → ∀ (d : Nat) (p : Bool) (l : List ByteArray), AscN l → AscN (namedFs r l) ∧ ∀ x, x ∈ namedFs r l ↔ x ∈ l ∨ nameOf (nodesPL r d p) x := by
      intro r
      induction r with
      | nil => intro _ d p l h; rw [namedFs]; exact ⟨h, fun x => by rw [nodesPL_nil]; simp [nameOf]⟩
      | cons g r ihr =>
        intro hr d p l h
        obtain ⟨h1, h2⟩ := ih g (hr g (by simp)) d p l h
        obtain ⟨h3, h4⟩ := ihr (fun y hy => hr y (by simp [hy])) d p _ h1
        rw [namedFs]
        refine ⟨h3, fun x => ?_⟩
        rw [h4 x, h2 x, nodesPL_cons, nameOf_append, or_assoc]
    intro d p l h
    rw [nodesP_eq]
    by_cases h3 : f.op = 3
    · rw [namedF_is h3, insL_put h]
      obtain ⟨a, b⟩ := hs f.args (fun _ h => h) (d + 1) (p || lateB f.op) (putN f.name l) (asc_putN h)
      refine ⟨a, fun x => ?_⟩
      rw [b x, mem_putN]
      constructor
      · rintro ((rfl | hx) | ⟨y, hy, hh⟩)
        · exact .inr ⟨(f, d, p), by simp, h3, rfl⟩
        · exact .inl hx
        · exact .inr ⟨y, by simp [hy], hh⟩
      · rintro (hx | ⟨y, hy, h4, rfl⟩)
        · exact .inl (.inr hx)
        · rcases List.mem_cons.1 hy with rfl | hy
          · exact .inl (.inl rfl)
          · exact .inr ⟨y, hy, h4, rfl⟩
    · rw [namedF_not h3]
      obtain ⟨a, b⟩ := hs f.args (fun _ h => h) (d + 1) (p || lateB f.op) l h
      refine ⟨a, fun x => ?_⟩
      rw [b x]
      constructor
      · rintro (hx | ⟨y, hy, hh⟩)
        · exact .inl hx
        · exact .inr ⟨y, by simp [hy], hh⟩
      · rintro (hx | ⟨y, hy, h4, rfl⟩)
        · exact .inl hx
        · rcases List.mem_cons.1 hy with rfl | hy
          · exact absurd h4 h3
          · exact .inr ⟨y, hy, h4, rfl⟩
theorem namesF_asc (f : Fm) : AscN (namesF f) := (namedF_spec f 1 false [] List.Pairwise.nil).1
theorem mem_namesF {f : Fm} {x : ByteArray} : x ∈ namesF f ↔ nameOf (nodesP f 1 false) x := by
  rw [namesF, (namedF_spec f 1 false [] List.Pairwise.nil).2 x]; simp

/-- a sorted list of bytes as strings -/
def strL (ss : List (List UInt8)) : List ByteArray := ss.map fun l => ⟨l.toArray⟩
theorem bytes_mk (x : ByteArray) : (⟨x.toList.toArray⟩ : ByteArray) = x := bytes_inj (by rw [ByteArray.toList_eq])
theorem toList_mk (l : List UInt8) : (⟨l.toArray⟩ : ByteArray).toList = l := by rw [ByteArray.toList_eq]
/-- whatever order the keys came in, sorted they are the names -/
theorem names_of_keys {f : Fm} {ss : List (List UInt8)} (hnd : ss.Nodup) (hm : ∀ x : List UInt8, x ∈ ss ↔ nameOf (nodesP f 1 false) ⟨x.toArray⟩) : strL (ss.mergeSort leB) = namesF f := by
  have tr : ∀ a b c : List UInt8, leB a b = true → leB b c = true → leB a c = true := fun a b c h1 h2 => by simp only [leB, decide_eq_true_eq] at *; exact List.le_trans h1 h2
  have to : ∀ a b : List UInt8, (leB a b || leB b a) = true := fun a b => by simp only [leB, Bool.or_eq_true, decide_eq_true_eq]; exact List.le_total a b
  have hp := List.mergeSort_perm ss leB
  have hs := List.pairwise_mergeSort tr to ss
  have hnd' : (ss.mergeSort leB).Nodup := hp.nodup_iff.2 hnd
  refine ascN_unique ?_ (namesF_asc f) fun x => ?_
  · unfold AscN strL
    rw [List.pairwise_map]
    refine (hs.and hnd').imp fun {a b} h => ?_
    obtain ⟨h1, h2⟩ := h
    rw [lessN_lt, toList_mk, toList_mk]
    simp only [leB, decide_eq_true_eq] at h1
    rcases List.le_iff_lt_or_eq.1 h1 with h3 | h3
    · exact h3
    · exact absurd h3 h2
  · rw [mem_namesF]
    unfold strL
    rw [List.mem_map]
    constructor
    · rintro ⟨l, hl, rfl⟩
      exact (hm l).1 (hp.mem_iff.1 hl)
    · intro h
      refine ⟨x.toList, hp.mem_iff.2 ((hm x.toList).2 ?_), bytes_mk x⟩
      rw [bytes_mk]; exact h

end Go.Proofs.YtbnnjbfbifihaaaGreatDoor

/-
  The contract of package formula's Names.
-/
namespace Go.Proofs.YtbnnjbfbifihaaaGreatDoor
open Go.RowKit Go.Shelf Go.Maps
attribute [local go_sem] Oper.semAt_some

theorem sortsA (m : Nat) : AnyZ.SortsIn Tryz.prog Tryz.sortedA_ren Fence.wide m :=
  ⟨fun blk off cap ss W hH hblk hsz => callsIn_wide.2 (AnyM.slices_Sort_string Tryz.sortA blk off cap ss W hH hblk hsz),
   fun p cap W => callsIn_wide.2 (AnyM.slices_Sort_string_none Tryz.sortA p cap W)⟩

set_option maxHeartbeats 1000000 in
/-- slices.Sorted(maps.Keys(m)): what comes between -/
theorem keys_cK (mb : Option Nat) (W : World) : CallsIn Fence.wide 5 Tryz.prog 63 #[.map mb] W fun e w' => e = .returned (.func (.func 89) #[] #[.pointer (some ⟨W.heap.size, 0, none⟩)]) ∧ w' = W.alloc (.cells #[.map mb] 63) := AnyZ.keys_in Tryz.keysA Fence.wide 5 trivial rfl mb W
set_option maxHeartbeats 1000000 in
theorem keys_cS {H : Type} (b nn : Nat) (D0 : DataW H) (R : Value → Option (DataW H × List MemPlace)) (w : World) (hown : w.ownsMap Tryz.prog 9 R b nn D0) (hmax : Maps.size D0 ≤ maxLen) (hbytes : Maps.size D0 * 16 ≤ 140737488355328) :
    CallsIn Fence.wide 5 Tryz.prog 62 #[.func (.func 89) #[] #[.pointer (some ⟨w.heap.size, 0, none⟩)]] (w.alloc (.cells #[.map (some b)] 63)) fun e w' =>
      ∃ (v : Value) (ss : List (List UInt8)), e = .returned v ∧ ss.Perm (strKeys D0) ∧
      w'.ownsRow (w.heap.size + 1) 9 1 v ss.length ((ss.mergeSort (fun x y => decide (x ≤ y))).map encStr) ∧ Below (w.heap.size + 1) (w.alloc (.cells #[.map (some b)] 63)) w' := by
  have hbl := hown.lt
  have hseq : SeqGives Fence.wide 2 Tryz.prog 89 #[.pointer (some ⟨w.heap.size, 0, none⟩)] encStr (fun ss => ss.Perm (strKeys D0)) (Maps.size D0) (w.alloc (.cells #[.map (some b)] 63)) :=
    AnyZ.keys_gives (ρ := Tryz.keysA_ren) { Tryz.keysA with } Fence.wide _ trivial rfl (by omega) w.heap.size b nn D0 _ (by simp) (by simp) (by
      obtain ⟨es, clock, hb, Ft, hs, hD⟩ := hown
      exact ⟨es, clock, (Below.heap_alloc _ _ b hbl).trans hb, Ft, hs, hD⟩)
  have cS := AnyZ.sorted_in Tryz.sortedA Fence.wide 5 trivial trivial trivial trivial rfl (by omega) (sortsA _) (enters_of Tryz.func88 (by kernel_rfl) rfl) 89 #[.pointer (some ⟨w.heap.size, 0, none⟩)] trivial (enters_of Tryz.func89 (by kernel_rfl) rfl) _ _ hmax hbytes _ hseq
  refine cS.mono ?_
  rintro e w' ⟨v, ss, rfl, hS, hrow, hnil, hb⟩
  simp only [World.size_alloc] at hrow hb
  exact ⟨v, ss, rfl, hS, hrow, hb⟩

/-- which names a map that the walk holds has, and that no key stands twice -/
theorem strKeys_has {H : Type} {b nn : Nat} {D0 : DataW H} {R : Value → Option (DataW H × List MemPlace)} {w : World} (hown : w.ownsMap Tryz.prog 9 R b nn D0) : (strKeys D0).Nodup ∧ ∀ x, x ∈ strKeys D0 ↔ Maps.has D0 (.string x) = true := by
  have hk := Tryz.underlying9
  obtain ⟨es, hD, hpw, _⟩ := hown.entries (string_keyed hk)
  obtain ⟨es', hD', hko⟩ := hown.keysOf
  obtain rfl : es = es' := by rw [hD] at hD'; simpa using hD'
  subst hD
  have hks : ∀ p ∈ es, ∃ x, p.1 = .string x := fun p hp => by obtain ⟨v, hv⟩ := hko p hp; obtain ⟨x, _, hx, _⟩ := Maps.keyOf_str hk hv; exact ⟨x, hx⟩
  constructor
  · show (es.map fun p => strOf p.1).Nodup
    refine List.pairwise_map.2 (hpw.imp_of_mem fun {p q} hp' hq' hne e => hne ?_)
    obtain ⟨a, ha⟩ := hks p hp'
    obtain ⟨c, hc⟩ := hks q hq'
    rw [ha, hc] at e ⊢
    exact congrArg _ e
  · intro x
    rw [has_eq, List.any_eq_true]
    show x ∈ es.map (fun p => strOf p.1) ↔ _
    rw [List.mem_map]
    constructor
    · rintro ⟨p, hp', rfl⟩
      obtain ⟨a, ha⟩ := hks p hp'
      exact ⟨p, hp', by rw [ha]; simp [Lit.sameKey, strOf]⟩
    · rintro ⟨p, hp', hs⟩
      obtain ⟨a, ha⟩ := hks p hp'
      rw [ha] at hs
      exact ⟨p, hp', by rw [ha]; simpa [Lit.sameKey, strOf] using hs⟩

theorem has_put_str {H : Type} {D : DataW H} (hD : IsMap D) (s x : List UInt8) (d : DataW H) : Maps.has (D.put (.string s) d) (.string x) = true ↔ x = s ∨ Maps.has D (.string x) = true := by
  by_cases h : x = s
  · subst h
    simp [has_put_same hD (k := .string x) (by first | trivial | simp [WideAt.IsKeyLit] | exact rfl) d]
  · rw [has_put_other (fun e => h (by cases e; rfl))]
    simp [h]

end Go.Proofs.YtbnnjbfbifihaaaGreatDoor

/-
  The contract of package formula's Names.
-/
namespace Go.Proofs.YtbnnjbfbifihaaaGreatDoor
open Go.RowKit Go.Shelf Go.Maps
attribute [local go_sem] Oper.semAt_some

/-- what Names' map holds behind some nodes -/
def MapI (M k3 : Nat) (w : World) (pre : List PN) (W : World) : Prop :=
  Boxed W k3 63 (.map (some M)) ∧ Below w.heap.size w W ∧
  ∃ (n : Nat) (D : DataW Unit), n ≤ pre.length ∧ W.ownsMap Tryz.prog 9 (plainElem (H := Unit) Tryz.prog 4) M n D ∧ IsMap D ∧ ∀ x : List UInt8, Maps.has D (.string x) = true ↔ nameOf pre ⟨x.toArray⟩

theorem MapI.own {n₀ : Nat} {w0 w : World} {M k3 B : Nat} (hM : M < B) (hk : k3 < B) (hB : w.heap.size ≤ B) : OwnFrom B (fun (pre : List (NV n₀ w0)) W => MapI M k3 w (pre.map NV.plain) W) := by
  rintro pre X Y row ⟨h1, h2, n, D, h3, h4, h5, h6⟩ hg hr
  refine ⟨h1.kept hg (fun e => ?_), h2.grown hg h2.size (fun k e => ?_), n, D, h3, h4.kept hg (fun e => ?_), h5, h6⟩
  · have := (hr _ e.symm).1; omega
  · have := (hr k e).1; omega
  · have := (hr _ e.symm).1; omega

theorem keyOf_str' (s : ByteArray) (hs : s.size ≤ 9223372036854775807) : keyOf Tryz.prog 9 (.string s) = some (.string s.data.toList) := by
  simp [keyOf, mapKey, Tryz.underlying9]
  unfold maxLen
  omega

theorem strs_of_row {W : World} {B n : Nat} {v : Value} {ss : List (List UInt8)} (h : W.ownsRow B 9 1 v n (ss.map Go.Proofs.encStr)) (hn : n = ss.length) (hb : ∀ l ∈ ss, l.length ≤ 9223372036854775807) : StrsP (fun b => B ≤ b ∧ b < W.heap.size) W v (strL ss) := by
  have e : ss.map Go.Proofs.encStr = (strL ss).map Value.string := by
    unfold strL
    rw [List.map_map]
    rfl
  rw [e] at h
  refine strs_of_owns h (by rw [hn]; simp [strL]) fun x hx => ?_
  obtain ⟨l, hl, rfl⟩ := List.mem_map.1 hx
  have := hb l hl
  simpa [ByteArray.size] using this

set_option maxRecDepth 100000 in
set_option maxHeartbeats 4000000 in
theorem names_any (f : Fm) (B : Nat) (v : Value) (w : World) (hv : FAt B w v f) (hBw : B ≤ w.heap.size) (hE : Env w) (hn : f.nodes ≤ 999999) :
    Calls Tryz.prog 26 #[v] w fun e w' => ∃ r, e = .returned r ∧ StrsP (fun b => w.heap.size ≤ b ∧ b < w'.heap.size) w' r (namesF f) ∧ Below w.heap.size w w' := by
  have hv' := hv.mono hBw
  have hdn := f.depth_le_nodes
  have hnl := nodesP_length f 1 false
  obtain ⟨o, c, rfl, -, -⟩ := hv.open
  have hmm := @run_makeMap Tryz.prog
  obtain ⟨W0, hW0⟩ : ∃ W0, Hid ((((w.alloc (.cells #[.int .i64 f.op, .string f.name, .int .i64 f.val, .int .i64 f.bound, .slice o f.args.length c] 24)).alloc (.map #[] 0)).alloc (.cells #[.map (some (w.heap.size + 1))] 63)).alloc (.cells #[.int .i64 f.op, .string f.name, .int .i64 f.val, .int .i64 f.bound, .slice o f.args.length c] 24) = W0) := ⟨_, rfl⟩
  have hs0 : W0.heap.size = w.heap.size + 4 := by rw [← hW0.out]; simp
  have hB0 : Below w.heap.size w W0 := by
    rw [← hW0.out]; exact (((below_box w _).alloc (by simp) _).alloc (by simp; omega) _).alloc (by simp; omega) _
  have hX : W0.heap[w.heap.size + 1 + 1 + 1]? = some (.cells #[.int .i64 f.op, .string f.name, .int .i64 f.val, .int .i64 f.bound, .slice o f.args.length c] 24 (0, 0)) := by
    rw [← hW0.out]
    have := heap_alloc_new (((w.alloc (.cells #[.int .i64 f.op, .string f.name, .int .i64 f.val, .int .i64 f.bound, .slice o f.args.length c] 24)).alloc (.map #[] 0)).alloc (.cells #[.map (some (w.heap.size + 1))] 63)) (.cells #[.int .i64 f.op, .string f.name, .int .i64 f.val, .int .i64 f.bound, .slice o f.args.length c] 24)
    rwa [World.size_alloc, World.size_alloc, World.size_alloc] at this
  have hC0 : Boxed W0 (w.heap.size + 1 + 1) 63 (.map (some (w.heap.size + 1))) := by
    rw [← hW0.out]
    have := Boxed.new ((w.alloc (.cells #[.int .i64 f.op, .string f.name, .int .i64 f.val, .int .i64 f.bound, .slice o f.args.length c] 24)).alloc (.map #[] 0)) 63 (.map (some (w.heap.size + 1)))
    rw [World.size_alloc, World.size_alloc] at this
    exact this.alloc _
  have hm0 : W0.ownsMap Tryz.prog 9 (plainElem (H := Unit) Tryz.prog 4) (w.heap.size + 1) 0 (.map []) := by
    rw [← hW0.out]
    have := World.ownsMap_made (w.alloc (.cells #[.int .i64 f.op, .string f.name, .int .i64 f.val, .int .i64 f.bound, .slice o f.args.length c] 24)) Tryz.prog 9 (plainElem (H := Unit) Tryz.prog 4)
    rw [World.size_alloc] at this
    exact (this.alloc _).alloc _
  have hI0 : MapI (w.heap.size + 1) (w.heap.size + 1 + 1) w [] W0 := ⟨hC0, hB0, 0, .map [], Nat.le_refl _, hm0, ⟨[], rfl⟩, fun x => by simp [nameOf, Maps.has]⟩
  refine (callsIn_wide (n := 6)).1 ?_
  refine callsIn_of_wp_marks Tryz.func26 rfl trivial ?_ rfl
  simp only [Tryz.ntmps26, List.size_toArray, List.length_cons, List.length_nil, Nat.reduceAdd, Nat.reduceSub, Array.replicate_succ, Array.replicate_zero, List.push_toArray, List.append_toArray, List.nil_append, List.cons_append]
  gi_wp2_with fail
  refine ⟨trivial, ?_⟩
  refine (callsIn_wide.2 (nodes_any f o c _)).mono ?_
  rintro e w' ⟨rfl, rfl⟩
  gi_wp2_with fail
  rw [hW0.out]
  refine wpIn_rangeFunc_ownH rfl (by decide) (gf := 82) (lb := #[.pointer (some ⟨w.heap.size + 1 + 1 + 1, 0, none⟩)]) rfl trivial (enters_of Tryz.func82 (by kernel_rfl) rfl)
    (nodes_stops _ w.heap.size W0.heap.size (w.heap.size + 1 + 1 + 1) w W0 hE (Nat.le_refl _) hE.pos (by omega) (Nat.le_refl _) hB0 f o c hv' (by omega) hX) kp_t (kp_b (by omega)) (Below.refl _ _) (fun _ => rfl)
    (fun pre W => MapI (w.heap.size + 1) (w.heap.size + 1 + 1) w (pre.map NV.plain) W)
    (fun _ _ _ => False)
    (MapI.own (by omega) (by omega) (by omega))
    (fun _ _ _ _ _ hs _ _ => hs)
    hI0
    (fun x a' W => ∃ Bx, Cells7 W Bx x.f x.sl x.d x.p ∧ a' = { tmps := #[.agg #[.int .i64 f.op, .string f.name, .int .i64 f.val, .int .i64 f.bound, .slice o f.args.length c], .pointer (some ⟨w.heap.size, 0, none⟩), .slice none 0 0, .pointer (some ⟨w.heap.size + 1 + 1, 0, none⟩), .pointer (some ⟨Bx, 0, none⟩), .map (some (w.heap.size + 1)), .agg #[.int .i64 f.op, .string f.name, .int .i64 f.val, .int .i64 f.bound, .slice o f.args.length c], .func (.func 82) #[] #[.pointer (some ⟨w.heap.size + 1 + 1 + 1, 0, none⟩)], nval x.f x.sl x.d x.p, undef, undef, undef, undef, undef, undef, undef, undef, undef, undef, undef], defers := [] })
    ?hax ?assign ?body ?done ?stop
  case hax =>
    rintro x a' s X Y row ⟨Bx, h2, h3⟩ hg hr
    exact ⟨Bx, (hg.block Bx (Array.getElem?_eq_some_iff.1 h2).1 (fun e => by obtain ⟨-, q, hq, hc⟩ := hr Bx e.symm; rw [show X.heap[Bx]? = _ from h2] at hq; cases hq; cases hc)).trans h2, h3⟩
  case assign =>
    rintro l pre x W K hI hK
    obtain ⟨sl, g, d, p, ok, hd⟩ := x
    obtain ⟨o1, c1, rfl⟩ := ok.slot
    unfold NV.encs
    rw [put_one]
    unfold nval
    have hsz := hI.2.1.size
    gi_wp2_with fail
    refine hK _ _ ((KeepsOthers.alloc _ _).from _) (Kp.of_below (below_box _ _) hsz) ?_ ⟨W.heap.size, heap_alloc_new W _, rfl⟩
    obtain ⟨h1, h2, n, D, h3, h4, h5, h6⟩ := hI
    exact ⟨h1.alloc _, h2.alloc h2.size _, n, D, h3, h4.alloc _, h5, h6⟩
  case body =>
    rintro l pre x a' W hl - hI ⟨Bx, h7, rfl⟩ hlt
    obtain ⟨sl, g, d, p, ok, hd⟩ := x
    obtain ⟨hc, hb, n, D, hnn, hown, hIM, hhas⟩ := hI
    have hfit : g.name.size ≤ 9223372036854775807 := by
      obtain ⟨_, _, h, _⟩ := ok
      exact h.2.1
    have c1 := hc.cell
    obtain ⟨q0, q1, q2, q3, q4, q5, q6⟩ := h7.cells
    have hkey := keyOf_str' g.name hfit
    have hnl2 : n < maxLen := by
      have h9 : pre.length < f.nodes := hlt
      rw [List.length_map] at hnn
      unfold maxLen; omega
    by_cases h3 : g.op = 3
    · have h3b : (g.op == 3) = true := by simpa using h3
      have hh := hidi h3
      clear h3
      gi_wp2_with (gi_at_mapUpdate; refine wpListIn_mapUpdate_own _ rfl _ _ _ 63 rfl 9 4 (Maps.string_keyed Tryz.underlying9) Tryz.underlying63 _ (w.heap.size + 1) n _ rfl hown hnl2 _ _ _ rfl rfl hkey _ [] (plainElem_bool Tryz.underlying4 true) ?_; intro w1 hown1 hgrow1)
      have hnew : ∀ x : List UInt8, Maps.has (D.put (.string g.name.data.toList) (.lit (.bool true))) (.string x) = true ↔ nameOf (pre.map NV.plain ++ [(g, d, p)]) ⟨x.toArray⟩ := by
        intro x
        rw [has_put_str hIM, hhas x, nameOf_append]
        have h1 : nameOf [(g, d, p)] ⟨x.toArray⟩ ↔ x = g.name.data.toList := by
          constructor
          · rintro ⟨y, hy, -, e⟩
            obtain rfl : y = (g, d, p) := by simpa using hy
            have e' : g.name = ⟨x.toArray⟩ := e
            rw [e']
          · rintro rfl
            exact ⟨(g, d, p), by simp, hh.out, rfl⟩
        rw [h1, or_comm]
      have hbs := hb.size
      refine ⟨KeepsFrom.of_grownBy hgrow1 (fun j e => by cases e; omega), ⟨(Below.refl _ W).grown hgrow1 (by omega) (fun k e => by cases e; omega), fun r o hr ho _ => (hgrow1.block r (Array.getElem?_eq_some_iff.1 ho).1 (fun e => by cases e; omega)).trans ho⟩, ?_⟩
      show MapI (w.heap.size + 1) (w.heap.size + 1 + 1) w ((pre ++ [_]).map NV.plain) w1
      rw [List.map_append]
      exact ⟨hc.kept hgrow1 (fun e => by have := Option.some.inj e; omega), hb.grown hgrow1 hb.size (fun k e => by cases e; omega), n + 1, _, by simp; simpa using hnn, hown1, hIM.put _ _, hnew⟩
    · have h3b : (g.op == 3) = false := by simpa using h3
      have hh := hidi h3
      clear h3
      gi_wp2
      refine ⟨KeepsFrom.refl _ _, Kp.refl _ _ _, ?_⟩
      show MapI (w.heap.size + 1) (w.heap.size + 1 + 1) w ((pre ++ [_]).map NV.plain) W
      rw [List.map_append]
      refine ⟨hc, hb, n, D, by simp; simp at hnn; omega, hown, hIM, fun x => ?_⟩
      rw [hhas x, nameOf_append]
      constructor
      · exact .inl
      · rintro (h | ⟨y, hy, h4, -⟩)
        · exact h
        · have e : y = (g, d, p) := by simpa [NV.plain] using hy
          rw [e] at h4
          exact absurd h4 hh.out
  case done =>
    rintro D xs W hD hxs ⟨hc, hb, n, DD, hnn, hown, hIM, hhas⟩ hK
    have hxs' : xs.map NV.plain = nodesP f 1 false := hxs
    rw [hxs'] at hnn hhas
    have hbs := hb.size
    have hDl := (Array.getElem?_eq_some_iff.1 hK).1
    have c1 := hc.cell
    have hsz := hown.size_le
    obtain ⟨hnd, hkm⟩ := strKeys_has hown
    have hkl := strKeys_le hown Tryz.underlying9
    have hcS := hidi (keys_cS (H := Unit) (w.heap.size + 1) n DD _ W hown (by unfold maxLen; omega) (by omega))
    have hnm : ∀ ss : List (List UInt8), ss.Perm (strKeys DD) → strL (ss.mergeSort leB) = namesF f := fun ss hp => names_of_keys (hp.nodup_iff.2 hnd) fun x => (hp.mem_iff.trans (hkm x)).trans (hhas x)
    gi_wp2_with fail
    refine ⟨trivial, ?_⟩
    refine (keys_cK _ _).mono ?_
    rintro e w1 ⟨rfl, rfl⟩
    gi_wp2_with fail
    refine ⟨trivial, ?_⟩
    refine hcS.out.mono ?_
    rintro e w2 ⟨r, ss, rfl, hp, hrow, hb2⟩
    have hN := hidi (hnm ss hp)
    have hK2 : w2.heap[D]? = some (.deferred (some [])) := (hb2.block D (by omega)).trans ((Below.heap_alloc _ _ _ hDl).trans hK)
    have hz2 := hb2.size
    rw [World.size_alloc] at hz2
    have hB2 : Below w.heap.size w w2 := (hb.alloc hbs _).trans (hb2.mono (by omega))
    gi_wp2
    refine ⟨by simp, .inl ⟨_, _, rfl, run_takeDeferred hK2, ?_⟩⟩
    have hBel := hB2.trans (belowK_b (w := w) (Nat.le_refl _) _ D _ (.deferred none) (by omega) hK2 rfl rfl)
    have hst := strs_of_row (ss := ss.mergeSort leB) hrow (by rw [(List.mergeSort_perm ss leB).length_eq]) (fun l hl => by
      have := hkl l (hp.mem_iff.1 ((List.mergeSort_perm ss leB).mem_iff.1 hl))
      unfold maxLen at this; omega)
    rw [hN.out] at hst
    refine ⟨_, results_tmp rfl _ _ _, _, rfl, ?_, hBel⟩
    have hpz : (w2.putObj D (.deferred none)).heap.size = w2.heap.size := by simp
    rcases hst with h | ⟨b9, o9, cap9, hv9, ⟨hb9, hb9'⟩, h1, h2, h3⟩
    · exact .inl h
    · refine .inr ⟨b9, o9, cap9, hv9, ⟨by omega, by omega⟩, h1, h2, fun k hk => ⟨?_, (h3 k hk).2⟩⟩
      exact (World.cell?_of_block (a := ⟨b9, o9 + k, none⟩) (World.putObj_heap_other (by show b9 ≠ D; omega))).trans (h3 k hk).1
  case stop =>
    rintro D c pre W _ _ h _
    exact h.elim

end Go.Proofs.YtbnnjbfbifihaaaGreatDoor
