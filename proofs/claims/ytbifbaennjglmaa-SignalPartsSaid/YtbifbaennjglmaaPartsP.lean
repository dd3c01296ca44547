/-
  What SignalParts needs besides: lists of signals without one of them; the cells of a list of signals; append onto an own row as one step of a region that draws.
-/
import Derived.Test.YtbifbaennjglmaaSigE
import Derived.Deep.RegionLaw
import Derived.Deep.RegionHeld3
namespace Go.Proofs.Ytbifbaennjglmaa
open Go.RowKit

/-- l without the element at j -/
def dropAt (l : List Sig) (j : Nat) : List Sig := l.take j ++ l.drop (j + 1)

theorem dropAt_length {l : List Sig} {j : Nat} (h : j < l.length) : (dropAt l j).length = l.length - 1 := by
  unfold dropAt; simp; omega

theorem dropAt_sub (l : List Sig) (j : Nat) : (dropAt l j).Sublist l := by
  unfold dropAt
  rw [← List.eraseIdx_eq_take_drop_succ]
  exact List.eraseIdx_sublist _ _

theorem findFrom_congr {a b : ByteArray} (h : a.toList = b.toList) : ∀ (k : Nat) (l : List Sig), findFrom a k l = findFrom b k l
  | _, [] => rfl
  | k, s :: r => by unfold findFrom; rw [h, findFrom_congr h (k + 1) r]

theorem findFrom_none {nm : ByteArray} : ∀ {l : List Sig} {k : Nat}, (∀ s ∈ l, s.name.toList ≠ nm.toList) → findFrom nm k l = -1
  | [], _, _ => rfl
  | s :: r, k, h => by
    unfold findFrom
    rw [if_neg (by simpa using h s (by simp))]
    exact findFrom_none fun t ht => h t (by simp [ht])

/-- different places have different names -/
def Apart (l : List Sig) : Prop := l.Pairwise fun a b => a.name.toList ≠ b.name.toList

theorem findFrom_pw : ∀ {l : List Sig} {s : Nat}, Apart l → ∀ k (h : k < l.length), findFrom l[k].name s l = ((s + k : Nat) : Int)
  | [], _, _, k, h => by simp at h
  | t :: r, s, hp, k, h => by
    unfold Apart at hp
    rw [List.pairwise_cons] at hp
    cases k with
    | zero => unfold findFrom; simp
    | succ k =>
      have h' : k < r.length := by simpa using h
      unfold findFrom
      simp only [List.getElem_cons_succ]
      rw [if_neg (by simpa using hp.1 _ (List.getElem_mem h'))]
      rw [findFrom_pw hp.2 k h']
      congr 1
      omega

theorem apart_of_find {l : List Sig} (h : ∀ k (h : k < l.length), findI l l[k].name = (k : Int)) : Apart l := by
  unfold Apart
  rw [List.pairwise_iff_getElem]
  intro i j hi hj hij he
  have h1 := h i hi
  have h2 := h j hj
  unfold findI at h1 h2
  rw [findFrom_congr he 0 l] at h1
  omega

theorem prodS_app {p : Sig → Bool} : ∀ (a b : List Sig), prodS p (a ++ b) = prodS p a * prodS p b
  | [], b => by simp [prodS]
  | s :: r, b => by
    rw [List.cons_append, prodS, prodS, prodS_app r b]
    split
    · rw [Int.mul_assoc]
    · rfl

theorem prodS_dropAt {l : List Sig} {j : Nat} (h : j < l.length) : prodS allS (dropAt l j) * l[j].size = prodS allS l := by
  have e : l = l.take j ++ l[j] :: l.drop (j + 1) := by rw [← List.drop_eq_getElem_cons h, List.take_append_drop]
  have e2 : prodS allS l = prodS allS (l.take j) * (l[j].size * prodS allS (l.drop (j + 1))) := by
    conv => lhs; rw [e]
    rw [prodS_app]; rfl
  rw [e2]
  unfold dropAt
  rw [prodS_app, Int.mul_assoc, Int.mul_comm (prodS allS (l.drop (j + 1)))]

theorem find_dropAt {l : List Sig} (hp : Apart l) {j : Nat} (h : j < l.length) : findI (dropAt l j) l[j].name = -1 := by
  have e : l = l.take j ++ l[j] :: l.drop (j + 1) := by rw [← List.drop_eq_getElem_cons h, List.take_append_drop]
  unfold Apart at hp
  rw [e, List.pairwise_append] at hp
  obtain ⟨-, h2, h3⟩ := hp
  rw [List.pairwise_cons] at h2
  refine findFrom_none fun s hs => ?_
  unfold dropAt at hs
  rcases List.mem_append.1 hs with hs | hs
  · exact h3 s hs _ List.mem_cons_self
  · exact fun he => h2.1 s hs he.symm

theorem wf_dropAt {l : List Sig} (hw : WF l) {j : Nat} (h : j < l.length) (h2 : 2 ≤ l.length) : WF (dropAt l j) := by
  have hs := dropAt_sub l j
  have hl := dropAt_length h
  have hsz : Sized (dropAt l j) := fun s hm => hw.sized s (hs.subset hm)
  have h6 := hw.len6
  refine ⟨by omega, by omega, hsz, ?_, ?_, ?_⟩
  · intro k hk
    obtain ⟨i, hi, he⟩ := List.getElem_of_mem (hs.subset (List.getElem_mem hk))
    rw [← he]
    exact hw.name i hi
  · intro k hk
    have := findFrom_pw (s := 0) (List.Pairwise.sublist hs (apart_of_find hw.find)) k hk
    unfold findI
    rw [this]
    simp
  · have hp := prodS_dropAt h
    have h64 := hw.prod
    have h1 := (prodS_bd (p := allS) hsz).1
    have hz := (hw.sized _ (List.getElem_mem h)).1
    have := Int.mul_le_mul_of_nonneg_left (show (1 : Int) ≤ l[j].size by omega) (show 0 ≤ prodS allS (dropAt l j) by omega)
    omega

theorem parts_facts {l : List Sig} (hw : WF l) {j : Nat} (h : j < l.length) (h2 : 2 ≤ l.length) :
    validB (dropAt l j) = true ∧ IntKind.i64.wrap (cntI allS (dropAt l j) * l[j].size) = cntI allS l ∧ wrap64 (cntI allS (dropAt l j) * l[j].size) = cntI allS l ∧ findI (dropAt l j) l[j].name = -1 := by
  have hw' := wf_dropAt hw h h2
  have e : cntI allS (dropAt l j) * l[j].size = cntI allS l := by rw [cntI_valid hw', cntI_valid hw, prodS_dropAt h]
  have hb := prodS_bd (p := allS) hw.sized
  have h64 := hw.prod
  have e2 : wrap64 (cntI allS (dropAt l j) * l[j].size) = cntI allS l := by
    rw [e, cntI_valid hw]
    exact wrap64_small (by omega) (by omega)
  exact ⟨(valid_iff _).2 hw', by rw [iw64]; exact e2, e2, find_dropAt (apart_of_find hw.find) h⟩

/-- the cells of a list of signals -/
def sigCells : List Sig → List Value
  | [] => []
  | s :: r => .string s.name :: .bool s.input :: .int .i64 s.size :: sigCells r

theorem sigCells_length : ∀ l : List Sig, (sigCells l).length = l.length * 3
  | [] => rfl
  | s :: r => by simp [sigCells, sigCells_length r]; omega

theorem sigCells_app : ∀ a b : List Sig, sigCells (a ++ b) = sigCells a ++ sigCells b
  | [], _ => rfl
  | s :: r, b => by simp [sigCells, sigCells_app r b]

theorem sigCells_one : ∀ {l : List Sig}, ∀ u ∈ sigCells l, u.oneCell' = true
  | [], u, h => by simp [sigCells] at h
  | s :: r, u, h => by
    simp only [sigCells, List.mem_cons] at h
    rcases h with rfl | rfl | rfl | h
    · rfl
    · rfl
    · rfl
    · exact sigCells_one u h

theorem sigCells_get : ∀ {l : List Sig} {k : Nat} (h : k < l.length), (sigCells l)[k * 3]? = some (.string l[k].name) ∧ (sigCells l)[k * 3 + 1]? = some (.bool l[k].input) ∧ (sigCells l)[k * 3 + 2]? = some (.int .i64 l[k].size)
  | [], k, h => by simp at h
  | s :: r, 0, _ => ⟨rfl, rfl, rfl⟩
  | s :: r, k + 1, h => by
    have ih := sigCells_get (l := r) (k := k) (by simpa using h)
    rw [show (k + 1) * 3 = k * 3 + 3 by omega]
    simpa [sigCells] using ih

theorem sig_news {w : World} {b : Nat} : ∀ {l : List Sig} {off : Nat}, (∀ k (h : k < l.length), SigAt w b (off + k * 3) l[k]) → ∀ j u, (sigCells l)[j]? = some u → w.cell? ((⟨b, off, none⟩ : Addr).add j) = some u
  | [], _, _, j, u, h => by simp [sigCells] at h
  | s :: r, off, hc, j, u, h => by
    have h0 := hc 0 (by simp)
    rw [Addr.add_lit]
    match j, h with
    | 0, h => simp [sigCells] at h; subst h; exact h0.1
    | 1, h => simp [sigCells] at h; subst h; exact h0.2.1
    | 2, h => simp [sigCells] at h; subst h; exact h0.2.2.1
    | j + 3, h =>
      have := sig_news (l := r) (off := off + 3) (fun k hk => by
        have := hc (k + 1) (by simpa using hk)
        rw [show off + (k + 1) * 3 = off + 3 + k * 3 by omega] at this
        exact this) j u (by simpa [sigCells] using h)
      rw [Addr.add_lit] at this
      rw [show off + (j + 3) = off + 3 + j by omega]
      exact this

/-- the bounds that a list of signals keeps -/
def SigB (l : List Sig) : Prop := ∀ s ∈ l, s.name.size ≤ 9223372036854775807 ∧ -9223372036854775808 ≤ s.size ∧ s.size ≤ 9223372036854775807

theorem sigs_of_owns {w : World} {B n : Nat} {v : Value} {l : List Sig} (h : w.ownsRow B 36 3 v n (sigCells l)) (hn : n = l.length) (hb : SigB l) : Sigs w.heap.size w v l := by
  subst hn
  have h0 := h
  rcases h.2 with ⟨rfl, h1⟩ | ⟨g, cap, cur, rfl, _, hg, hle, hcap, _⟩
  · exact .inl ⟨_, _, rfl, List.length_eq_zero_iff.1 h1⟩
  · refine .inr ⟨g, 0, cap, rfl, (Array.getElem?_eq_some_iff.1 hg).1, hle, by unfold maxLen at hcap; omega, fun k hk => ?_⟩
    have hx := sigCells_get hk
    have hc := h0.cells rfl
    simp only [Addr.add_lit, Nat.zero_add] at hc
    rw [Nat.zero_add]
    exact ⟨hc _ _ hx.1, hc _ _ hx.2.1, hc _ _ hx.2.2, hb _ (List.getElem_mem hk)⟩

theorem sigs_shape {B : Nat} {w : World} {v : Value} {l : List Sig} (h : Sigs B w v l) : ∃ o c, v = .slice o l.length c := by
  rcases h with ⟨ov, cv, rfl, rfl⟩ | ⟨b, off, cap, rfl, _⟩
  · exact ⟨_, _, rfl⟩
  · exact ⟨_, _, rfl⟩

theorem sig_info : (Try.prog.info? 36).map (fun i => (i.zero, i.size, i.bytes)) = some (some (.agg #[.string ⟨#[]⟩, .bool false, .int .i64 0]), 3, 32) := by kernel_rfl

/-- append onto a row that the call owns, as one step of a region that draws -/
theorem step_append_own {P : Program} {ops : Array Oper} {o : Oper} {a : Act} {w : World} {K : Act → World → Prop} {Q : Exit → Act → World → Prop} {E : Prop}
    (hg : o.guard = none) (s x : Operand) (t : TypeId) (hop : o.op = Op.call { callee := Callee.builtin Builtin.append, args := #[s, x], argTypes := #[t, t] })
    (base : Nat) (e : TypeId) (i : TypeInfo) (z : Value) (size bytes : Nat) (h1 : P.underlying t = some (.slice e)) (h2 : P.info? e = some i) (h3 : i.zero = some z) (h4 : i.size = size) (h5 : i.bytes = bytes) (h6 : z.cells.size = size) (h7 : 0 < size)
    (v : Value) (n : Nat) (xs : List Value) (hs : a.eval s = v) (hown : w.ownsRow base e size v n xs)
    (ad : Addr) (m c : Nat) (news : List Value) (hx : a.eval x = .slice (some ad) m c) (hn : news.length = m * size) (hc : ∀ j u, news[j]? = some u → w.cell? (ad.add j) = some u) (h1c : ∀ u ∈ news, u.oneCell' = true)
    (b1 : n + m ≤ maxLen) (b2 : (n + m) * bytes ≤ 140737488355328) (hb : base ≤ w.heap.size)
    (hK : ∀ v' w', w'.ownsRow base e size v' (n + m) (xs ++ news) → w.grownBy w' v.ownBlock → K (a.put o.dst v') w') :
    if Region.wanted o (yielded ops a.tmps) = true then Oper.wp P o a w K Q else E := by
  have hw : Region.wanted o (yielded ops a.tmps) = true := by simp [Region.wanted, hg]
  rw [if_pos hw]
  obtain ⟨v', w', hrun, r1, r2, _⟩ := run_append_own (P := P) w base t o.type e i z size bytes h1 h2 h3 h4 h5 h6 h7 v n xs hown ad m c news hn hc h1c b1 b2 hb
  unfold Oper.wp
  simp [execOp, hop, resolve, invoke, builtin, hs, hx, hrun, Result.andThen]
  exact hK v' w' r1 r2

end Go.Proofs.Ytbifbaennjglmaa
