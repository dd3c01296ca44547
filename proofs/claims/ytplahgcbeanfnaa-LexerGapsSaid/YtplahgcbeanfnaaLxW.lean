/-
  append of a list of tokens, whatever slice it lies in, onto a row that the call owns.
-/
import Derived.Test.YtplahgcbeanfnaaLxCovers
namespace Go.Proofs.Ytplahgcbeanfnaa
open Go.RowKit

theorem run_append_nilx {P : Program} (w : World) (base : Nat) (t ty e : TypeId) (i : TypeInfo) (size : Nat) (ht : P.underlying t = some (.slice e)) (hi : P.info? e = some i)
    (v : Value) (n : Nat) (xs : List Value) (hown : w.ownsRow base e size v n xs) (c : Nat) :
    (Builtin.append_ #[t, t] ty #[v, .slice none 0 c]).run P w = .ok v w := by
  rcases hown.2 with ⟨rfl, rfl⟩ | ⟨g, cap, cur, rfl, _, _, hle, _⟩
  · simp [Builtin.append_, run_underlying ht, sizeOf, typeInfo, hi, Builtin.lenOf, Builtin.firstCells]
  · simp [Builtin.append_, run_underlying ht, sizeOf, typeInfo, hi, Builtin.lenOf, Builtin.firstCells, hle, storeCells]

theorem tokCells_get (l : List Tok) (j : Nat) (u : Value) (h : (tokCells l)[j]? = some u) : ∃ (k : Nat) (hk : k < l.length), (j = k * 3 ∧ u = .int .i64 l[k].kind) ∨ (j = k * 3 + 1 ∧ u = .string ⟨l[k].text.toArray⟩) ∨ (j = k * 3 + 2 ∧ u = .int .i64 l[k].pos) := by
  obtain ⟨hj, _⟩ := List.getElem?_eq_some_iff.1 h
  rw [tokCells_len] at hj
  have hk : j / 3 < l.length := by omega
  obtain ⟨q1, q2, q3⟩ := tokCells_at l (j / 3) hk
  have hr : j = j / 3 * 3 ∨ j = j / 3 * 3 + 1 ∨ j = j / 3 * 3 + 2 := by omega
  refine ⟨j / 3, hk, ?_⟩
  rcases hr with hr | hr | hr
  · rw [← hr, h] at q1; exact .inl ⟨hr, Option.some.inj q1⟩
  · rw [← hr, h] at q2; exact .inr (.inl ⟨hr, Option.some.inj q2⟩)
  · rw [← hr, h] at q3; exact .inr (.inr ⟨hr, Option.some.inj q3⟩)
theorem tokCells_one {l : List Tok} : ∀ u ∈ tokCells l, u.oneCell' = true := by
  intro u hu
  obtain ⟨j, hj⟩ := List.mem_iff_getElem?.1 hu
  obtain ⟨k, hk, ⟨_, rfl⟩ | ⟨_, rfl⟩ | ⟨_, rfl⟩⟩ := tokCells_get l j u hj <;> rfl
theorem toks_news {w : World} {B : Nat} {l : List Tok} {ad : Addr} {c : Nat} (h : Toks B w (.slice (some ad) l.length c) l) : ∀ j u, (tokCells l)[j]? = some u → w.cell? (ad.add j) = some u := by
  intro j u hu
  rcases h with ⟨o', c', _, rfl⟩ | ⟨b, cap, hv, _, _, _, h4⟩
  · simp [tokCells] at hu
  · cases hv
    rw [Addr.add_lit, Nat.zero_add]
    obtain ⟨k, hk, ⟨rfl, rfl⟩ | ⟨rfl, rfl⟩ | ⟨rfl, rfl⟩⟩ := tokCells_get l j u hu
    · exact (h4 k hk).1
    · exact (h4 k hk).2.1
    · exact (h4 k hk).2.2

theorem run_append_toks (w : World) (base : Nat) (ty : TypeId) (v : Value) (n : Nat) (ys : List Value) (hown : w.ownsRow base 28 3 v n ys) (hb : base ≤ w.heap.size) (B : Nat) (xv : Value) (xs : List Tok) (hx : Toks B w xv xs)
    (h6 : n + xs.length ≤ 1000000) :
    ∃ v' w', (Builtin.append_ #[23, 23] ty #[v, xv]).run Try.prog w = .ok v' w' ∧ w'.ownsRow base 28 3 v' (n + xs.length) (ys ++ tokCells xs) ∧ w.grownBy w' v.ownBlock := by
  obtain ⟨i0, hi, hz0, hz1, hz2⟩ := info_parts tokInfo
  obtain ⟨o, c, rfl⟩ := hx.shape
  cases o with
  | none =>
    have h0 : xs = [] := by
      rcases hx with ⟨_, _, _, rfl⟩ | ⟨_, _, hv, _⟩
      · rfl
      · cases hv
    subst h0
    refine ⟨v, w, run_append_nilx w base _ ty _ i0 3 Try.underlying23 hi v n ys hown c, by simpa [tokCells] using hown, ⟨rfl, rfl, rfl, Nat.le_refl _, fun _ _ _ => rfl⟩⟩
  | some ad =>
    obtain ⟨v', w', r1, r2, r3, _⟩ := run_append_own (P := Try.prog) w base 23 ty 28 i0 (.agg #[.int .i64 0, .string ⟨#[]⟩, .int .i64 0]) 3 32 Try.underlying23 hi hz0 hz1 hz2 rfl (by decide) v n ys hown ad xs.length c (tokCells xs) (tokCells_len xs) (toks_news hx) tokCells_one (by unfold maxLen; omega) (by omega) hb
    exact ⟨v', w', r1, r2, r3⟩

theorem wp_append_toks {o : Oper} {a : Act} {w : World} {K : Act → World → Prop} {Q : Exit → Act → World → Prop} (s x : Operand)
    (ho : o.op = .call { callee := .builtin .append, args := #[s, x], argTypes := #[23, 23] })
    (base : Nat) (v : Value) (n : Nat) (ys : List Value) (hs : a.eval s = v) (hown : w.ownsRow base 28 3 v n ys) (hb : base ≤ w.heap.size) (B : Nat) (xv : Value) (xs : List Tok) (hxv : a.eval x = xv) (hx : Toks B w xv xs) (h6 : n + xs.length ≤ 1000000)
    (h : ∀ v' w', w'.ownsRow base 28 3 v' (n + xs.length) (ys ++ tokCells xs) → w.grownBy w' v.ownBlock → K (a.put o.dst v') w') : o.wp Try.prog a w K Q := by
  obtain ⟨v', w', hr, h2, h3⟩ := run_append_toks w base o.type v n ys hown hb B xv xs hx h6
  unfold Oper.wp execOp
  simp only [ho, resolve, invoke, builtin, Sem.run_bind, Sem.run_pure, Result.andThen_ok, List.map_toArray, List.map_cons, List.map_nil, hs, hxv, hr]
  exact h v' w' h2 h3

theorem wpList_append_toks {ops : Array Oper} {rest : List Oper} {o : Oper} {a : Act} {w : World} {Q : Exit → Act → World → Prop} (hgd : o.guard = none) (s x : Operand)
    (ho : o.op = .call { callee := .builtin .append, args := #[s, x], argTypes := #[23, 23] })
    (base : Nat) (v : Value) (n : Nat) (ys : List Value) (hs : a.eval s = v) (hown : w.ownsRow base 28 3 v n ys) (hb : base ≤ w.heap.size) (B : Nat) (xv : Value) (xs : List Tok) (hxv : a.eval x = xv) (hx : Toks B w xv xs) (h6 : n + xs.length ≤ 1000000)
    (h : ∀ v' w', w'.ownsRow base 28 3 v' (n + xs.length) (ys ++ tokCells xs) → w.grownBy w' v.ownBlock → wpList Try.prog ops Q rest (a.put o.dst v') w') : wpList Try.prog ops Q (o :: rest) a w :=
  wpList_plain hgd fun _ hK => wp_append_toks s x ho base v n ys hs hown hb B xv xs hxv hx h6 fun v' w' h2 h3 => hK _ _ (h v' w' h2 h3)

end Go.Proofs.Ytplahgcbeanfnaa
