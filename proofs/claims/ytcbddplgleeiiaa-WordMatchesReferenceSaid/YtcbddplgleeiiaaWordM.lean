/-
  append of a list of numbers, whatever slice it lies in, onto a row that the call owns: in a plain region and as a step of a region that draws.
-/
import Derived.Test.YtcbddplgleeiiaaWordK
import Derived.Deep.AppendLies
namespace Go.Proofs.Ytcbddplgleeiiaa
open Go.RowKit

theorem run_append_nilx {P : Program} (w : World) (base : Nat) (t ty e : TypeId) (i : TypeInfo) (size : Nat) (ht : P.underlying t = some (.slice e)) (hi : P.info? e = some i)
    (v : Value) (n : Nat) (xs : List Value) (hown : w.ownsRow base e size v n xs) (c : Nat) :
    (Builtin.append_ #[t, t] ty #[v, .slice none 0 c]).run P w = .ok v w := by
  rcases hown.2 with ⟨rfl, rfl⟩ | ⟨g, cap, cur, rfl, _, _, hle, _⟩
  · simp [Builtin.append_, run_underlying ht, sizeOf, typeInfo, hi, Builtin.lenOf, Builtin.firstCells]
  · simp [Builtin.append_, run_underlying ht, sizeOf, typeInfo, hi, Builtin.lenOf, Builtin.firstCells, hle, storeCells]

theorem Try.intInfo : (Try.prog.info? 3).map (fun i => (i.zero, i.size, i.bytes)) = some (some (.int .i64 0), 1, 8) := by kernel_rfl

theorem ints_news {w : World} {B : Nat} {xs : List Int} {ad : Addr} {c : Nat} (h : IntsAt B w (.slice (some ad) xs.length c) xs) : ∀ j u, (xs.map (Value.int .i64))[j]? = some u → w.cell? (ad.add j) = some u := by
  intro j u hu
  rcases h with ⟨o', c', _, rfl⟩ | ⟨b, off, cap, hv, _, _, _, h4⟩
  · simp at hu
  · cases hv
    rw [List.getElem?_map] at hu
    obtain ⟨x, hx, rfl⟩ := Option.map_eq_some_iff.1 hu
    obtain ⟨hj, rfl⟩ := List.getElem?_eq_some_iff.1 hx
    rw [Addr.add_lit]
    exact (h4 j hj).1

theorem ints_one {xs : List Int} : ∀ u ∈ xs.map (Value.int .i64), u.oneCell' = true := by
  intro u hu
  obtain ⟨x, _, rfl⟩ := List.mem_map.1 hu
  rfl

/-- append onto an own row, of a list of numbers in whatever slice -/
theorem run_append_ints (w : World) (base : Nat) (ty : TypeId) (v : Value) (n : Nat) (ys : List Value) (hown : w.ownsRow base 3 1 v n ys) (hb : base ≤ w.heap.size) (B : Nat) (xv : Value) (xs : List Int) (hx : IntsAt B w xv xs)
    (h6 : n + xs.length ≤ 1000000) :
    ∃ v' w', (Builtin.append_ #[22, 22] ty #[v, xv]).run Try.prog w = .ok v' w' ∧ w'.ownsRow base 3 1 v' (n + xs.length) (ys ++ xs.map (Value.int .i64)) ∧ w.grownBy w' v.ownBlock := by
  obtain ⟨i0, hi, hz0, hz1, hz2⟩ := info_parts Try.intInfo
  obtain ⟨o, c, rfl⟩ := hx.shape
  cases o with
  | none =>
    have h0 : xs = [] := by
      rcases hx with ⟨_, _, _, rfl⟩ | ⟨_, _, _, hv, _⟩
      · rfl
      · cases hv
    subst h0
    refine ⟨v, w, run_append_nilx w base _ ty _ i0 1 Try.underlying22 hi v n ys hown c, by simpa using hown, ⟨rfl, rfl, rfl, Nat.le_refl _, fun _ _ _ => rfl⟩⟩
  | some ad =>
    obtain ⟨v', w', r1, r2, r3, _⟩ := run_append_own (P := Try.prog) w base 22 ty 3 i0 (.int .i64 0) 1 8 Try.underlying22 hi hz0 hz1 hz2 rfl (by decide) v n ys hown ad xs.length c (xs.map (Value.int .i64)) (by simp) (ints_news hx) ints_one (by unfold maxLen; omega) (by omega) hb
    exact ⟨v', w', r1, r2, r3⟩

theorem wp_append_ints {o : Oper} {a : Act} {w : World} {K : Act → World → Prop} {Q : Exit → Act → World → Prop} (s x : Operand)
    (ho : o.op = .call { callee := .builtin .append, args := #[s, x], argTypes := #[22, 22] })
    (base : Nat) (v : Value) (n : Nat) (ys : List Value) (hs : a.eval s = v) (hown : w.ownsRow base 3 1 v n ys) (hb : base ≤ w.heap.size) (B : Nat) (xv : Value) (xs : List Int) (hxv : a.eval x = xv) (hx : IntsAt B w xv xs) (h6 : n + xs.length ≤ 1000000)
    (h : ∀ v' w', w'.ownsRow base 3 1 v' (n + xs.length) (ys ++ xs.map (Value.int .i64)) → w.grownBy w' v.ownBlock → K (a.put o.dst v') w') : o.wp Try.prog a w K Q := by
  obtain ⟨v', w', hr, h2, h3⟩ := run_append_ints w base o.type v n ys hown hb B xv xs hx h6
  unfold Oper.wp execOp
  simp only [ho, resolve, invoke, builtin, Sem.run_bind, Sem.run_pure, Result.andThen_ok, List.map_toArray, List.map_cons, List.map_nil, hs, hxv, hr]
  exact h v' w' h2 h3

theorem wpList_append_ints {ops : Array Oper} {rest : List Oper} {o : Oper} {a : Act} {w : World} {Q : Exit → Act → World → Prop} (hgd : o.guard = none) (s x : Operand)
    (ho : o.op = .call { callee := .builtin .append, args := #[s, x], argTypes := #[22, 22] })
    (base : Nat) (v : Value) (n : Nat) (ys : List Value) (hs : a.eval s = v) (hown : w.ownsRow base 3 1 v n ys) (hb : base ≤ w.heap.size) (B : Nat) (xv : Value) (xs : List Int) (hxv : a.eval x = xv) (hx : IntsAt B w xv xs) (h6 : n + xs.length ≤ 1000000)
    (h : ∀ v' w', w'.ownsRow base 3 1 v' (n + xs.length) (ys ++ xs.map (Value.int .i64)) → w.grownBy w' v.ownBlock → wpList Try.prog ops Q rest (a.put o.dst v') w') : wpList Try.prog ops Q (o :: rest) a w :=
  wpList_plain hgd fun _ hK => wp_append_ints s x ho base v n ys hs hown hb B xv xs hxv hx h6 fun v' w' h2 h3 => hK _ _ (h v' w' h2 h3)

theorem step_append_ints {ops : Array Oper} {o : Oper} {a : Act} {w : World} {K : Act → World → Prop} {Q : Exit → Act → World → Prop} {E : Prop} (hgd : o.guard = none) (s x : Operand)
    (ho : o.op = .call { callee := .builtin .append, args := #[s, x], argTypes := #[22, 22] })
    (base : Nat) (v : Value) (n : Nat) (ys : List Value) (hs : a.eval s = v) (hown : w.ownsRow base 3 1 v n ys) (hb : base ≤ w.heap.size) (B : Nat) (xv : Value) (xs : List Int) (hxv : a.eval x = xv) (hx : IntsAt B w xv xs) (h6 : n + xs.length ≤ 1000000)
    (h : ∀ v' w', w'.ownsRow base 3 1 v' (n + xs.length) (ys ++ xs.map (Value.int .i64)) → w.grownBy w' v.ownBlock → K (a.put o.dst v') w') :
    if Region.wanted o (yielded ops a.tmps) = true then Oper.wp Try.prog o a w K Q else E := by
  have hw : Region.wanted o (yielded ops a.tmps) = true := by simp [Region.wanted, hgd]
  rw [if_pos hw]
  exact wp_append_ints s x ho base v n ys hs hown hb B xv xs hxv hx h6 h

theorem ints_of_owns {w : World} {B n : Nat} {v : Value} {xs : List Int} (h : w.ownsRow B 3 1 v n (xs.map (Value.int .i64))) (hn : n = xs.length) (hb : ∀ x ∈ xs, -9223372036854775808 ≤ x ∧ x ≤ 9223372036854775807) : IntsAt w.heap.size w v xs := by
  subst hn
  have h0 := h
  rcases h.2 with ⟨rfl, h1⟩ | ⟨g, cap, cur, rfl, _, hg, hle, hcap, _⟩
  · exact .inl ⟨_, _, rfl, List.length_eq_zero_iff.1 h1⟩
  · refine .inr ⟨g, 0, cap, rfl, (Array.getElem?_eq_some_iff.1 hg).1, hle, by unfold maxLen at hcap; omega, fun k hk => ⟨?_, hb _ (List.getElem_mem hk)⟩⟩
    rw [Nat.zero_add]
    have := h0.cells rfl k (.int .i64 xs[k]) (by simp [hk])
    rwa [Addr.add_lit, Nat.zero_add] at this

/-- a slice's first elements -/
theorem IntsAt.take {B : Nat} {w : World} {o : Option Addr} {c : Nat} {xs : List Int} (h : IntsAt B w (.slice o xs.length c) xs) (k : Nat) (hk : k ≤ xs.length) : IntsAt B w (.slice o k c) (xs.take k) := by
  have hl : (xs.take k).length = k := by rw [List.length_take, Nat.min_eq_left hk]
  rcases h with ⟨o', c', hv, rfl⟩ | ⟨b, off, cap, hv, h1, h2, h3, h4⟩
  · have : k = 0 := by simpa using hk
    subst this
    exact .inl ⟨_, _, rfl, rfl⟩
  · cases hv
    refine .inr ⟨b, off, c, by rw [hl], h1, by omega, h3, fun j hj => ?_⟩
    have hj' : j < xs.length := by omega
    have := h4 j hj'
    rw [List.getElem_take]
    exact this

theorem IntsAt.bd {B : Nat} {w : World} {v : Value} {xs : List Int} (h : IntsAt B w v xs) : ∀ x ∈ xs, -9223372036854775808 ≤ x ∧ x ≤ 9223372036854775807 := by
  rcases h with ⟨_, _, _, rfl⟩ | ⟨b, off, cap, _, _, _, _, h4⟩
  · intro x hx; simp at hx
  · intro x hx
    obtain ⟨k, hk, rfl⟩ := List.getElem_of_mem hx
    exact (h4 k hk).2

end Go.Proofs.Ytcbddplgleeiiaa
