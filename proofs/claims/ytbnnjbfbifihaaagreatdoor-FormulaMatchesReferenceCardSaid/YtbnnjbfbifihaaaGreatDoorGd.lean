/-
  Contracts that the formula laws stand on, part Gd.
-/
import Derived.Test.YtbnnjbfbifihaaaGreatDoorFmA
import Derived.Deep.AppendLies
import Derived.Test.YtbnnjbfbifihaaaGreatDoorGb

/-
  Lists of strings in memory; the contract of the formula law's strings.
-/
namespace Go.Proofs.YtbnnjbfbifihaaaGreatDoor
open Go.RowKit

/-- a slice value reads, in blocks that P allows, as a list of strings -/
def StrsP (P : Nat → Prop) (w : World) (v : Value) (l : List ByteArray) : Prop :=
  (∃ o c, v = .slice o 0 c ∧ l = []) ∨ ∃ b off cap, v = .slice (some ⟨b, off, none⟩) l.length cap ∧ P b ∧ l.length ≤ cap ∧ cap ≤ 9223372036854775807 ∧
    ∀ k (h : k < l.length), w.cell? ⟨b, off + k, none⟩ = some (.string l[k]) ∧ l[k].size ≤ 9223372036854775807

theorem StrsP.kept {P : Nat → Prop} {B : Nat} {w w' : World} {v : Value} {l : List ByteArray} (h : StrsP P w v l) (hB : Below B w w') (hb : ∀ b, P b → b < B) : StrsP P w' v l := by
  rcases h with h | ⟨b, off, cap, hv, h1, h2, h3, h4⟩
  · exact .inl h
  · exact .inr ⟨b, off, cap, hv, h1, h2, h3, fun k hk => ⟨(hB.cell (p := ⟨b, off + k, none⟩) (hb b h1)).trans (h4 k hk).1, (h4 k hk).2⟩⟩
theorem StrsP.mono {P Q : Nat → Prop} {w : World} {v : Value} {l : List ByteArray} (h : StrsP P w v l) (hb : ∀ b, P b → Q b) : StrsP Q w v l := by
  rcases h with h | ⟨b, off, cap, hv, h1, h2, h3, h4⟩
  · exact .inl h
  · exact .inr ⟨b, off, cap, hv, hb b h1, h2, h3, h4⟩
theorem StrsP.shape {P : Nat → Prop} {w : World} {v : Value} {l : List ByteArray} (h : StrsP P w v l) : ∃ o c, v = .slice o l.length c := by
  rcases h with ⟨o, c, rfl, rfl⟩ | ⟨b, off, cap, rfl, _⟩
  · exact ⟨_, _, rfl⟩
  · exact ⟨_, _, rfl⟩
theorem StrsP.at {P : Nat → Prop} {w : World} {o : Option Addr} {c : Nat} {l : List ByteArray} (h : StrsP P w (.slice o l.length c) l) (hx : 0 < l.length) : ∃ b off, o = some ⟨b, off, none⟩ ∧ P b ∧ l.length ≤ c ∧ c ≤ 9223372036854775807 ∧
    ∀ k (h : k < l.length), w.cell? ⟨b, off + k, none⟩ = some (.string l[k]) ∧ l[k].size ≤ 9223372036854775807 := by
  rcases h with ⟨o', c', _, rfl⟩ | ⟨b, off, cap, hv, h1, h2, h3, h4⟩
  · simp at hx
  · cases hv
    exact ⟨b, off, rfl, h1, h2, h3, h4⟩
theorem StrsP.len {P : Nat → Prop} {w : World} {v : Value} {l : List ByteArray} (h : StrsP P w v l) : l.length ≤ 9223372036854775807 := by
  rcases h with ⟨o, c, rfl, rfl⟩ | ⟨b, off, cap, rfl, h1, h2, h3, h4⟩
  · simp
  · omega

/-- are two lists of strings equal -/
def strsB : List ByteArray → List ByteArray → Bool
  | [], [] => true
  | x :: l, y :: m => x.toList == y.toList && strsB l m
  | _, _ => false
theorem strsB_self : ∀ l : List ByteArray, strsB l l = true
  | [] => rfl
  | x :: l => by simp [strsB, strsB_self l]
theorem strsB_len : ∀ {l m : List ByteArray}, l.length ≠ m.length → strsB l m = false
  | [], [], h => by simp at h
  | [], _ :: _, _ => rfl
  | _ :: _, [], _ => rfl
  | x :: l, y :: m, h => by simp [strsB, strsB_len (l := l) (m := m) (by simpa using h)]

set_option maxHeartbeats 1000000 in
theorem strings_any (B : Nat) (u v : Value) (xs ys : List ByteArray) (w : World) (hx : StrsP (· < B) w u xs) (hy : StrsP (· < B) w v ys) (hBw : B ≤ w.heap.size) :
    Calls Tryz.prog 25 #[u, v] w fun e w' => e = .returned (.bool (strsB xs ys)) ∧ Below w.heap.size w w' := by
  have hm := hx.len
  obtain ⟨o1, c1, rfl⟩ := hx.shape
  obtain ⟨o2, c2, rfl⟩ := hy.shape
  by_cases hlen : xs.length = ys.length
  · have hne : ((xs.length : Int) != (ys.length : Int)) = false := by simp [hlen]
    have hlen' := hidi hlen
    clear hlen
    go_enter Tryz.func25, Tryz.ntmps25
    go_wp2
    go_loopw [5] (fun i wr => ∃ k : Nat, k ≤ xs.length ∧ i = .int .i64 k ∧ Below w.heap.size w wr ∧ Hid (strsB xs ys = strsB (xs.drop k) (ys.drop k))) (fun i _ => xs.length - (intOf i).toNat)
    case atStart => exact ⟨0, Nat.zero_le _, rfl, Below.refl _ _, rfl⟩
    case round =>
      obtain ⟨k, hk, rfl, hB, hF⟩ := hrel
      by_cases hlt : k < xs.length
      · have hlt2 : k < ys.length := by have := hlen'.out; omega
        obtain ⟨b1, f1, rfl, hb1, -, -, hc1⟩ := hx.at (by omega)
        obtain ⟨b2, f2, rfl, hb2, -, -, hc2⟩ := hy.at (by omega)
        have d1 := (hB.cell (p := ⟨b1, f1 + k, none⟩) (Nat.lt_of_lt_of_le hb1 hBw)).trans (hc1 k hlt).1
        have d2 := (hB.cell (p := ⟨b2, f2 + k, none⟩) (Nat.lt_of_lt_of_le hb2 hBw)).trans (hc2 k hlt2).1
        have hS : Hid (strsB (xs.drop k) (ys.drop k) = (xs[k].toList == ys[k].toList && strsB (xs.drop (k + 1)) (ys.drop (k + 1)))) := by
          unfold Hid; rw [List.drop_eq_getElem_cons hlt, List.drop_eq_getElem_cons hlt2]; rfl
        have g1 : (0 : Int) ≤ k := by omega
        have g2 : (k : Int) < xs.length := by omega
        have g3 : (k : Int) < ys.length := by omega
        cases heq : (xs[k].toList == ys[k].toList)
        · go_wp2
          go_quiet (fail)
          go_wp2
          go_ret
          exact ⟨ret_bool (by rw [hF.out, hS.out, heq]; rfl), below_drewN hB _⟩
        · go_wp2
          go_quiet (fail)
          go_wp2
          go_roundw
          case rel => exact ⟨k + 1, by omega, by go_num, below_drewN hB _, hF.out.trans (hS.out.trans (by rw [heq]; rfl))⟩
          case measure => simp [intOf]; omega
      · go_wp2
        go_ret
        exact ⟨ret_bool (by rw [hF.out, List.drop_of_length_le (by omega), List.drop_of_length_le (by have := hlen'.out; omega)]; rfl), hB⟩
  · have hne : ((xs.length : Int) != (ys.length : Int)) = true := by simp; omega
    have hR := hidi (strsB_len hlen)
    clear hlen
    go_enter Tryz.func25, Tryz.ntmps25
    go_wp2
    go_ret
    exact ⟨ret_bool hR.out.symm, Below.refl _ _⟩

end Go.Proofs.YtbnnjbfbifihaaaGreatDoor

/-
  append of a list of strings, whatever slice it lies in, onto a row that the call owns: in a plain region and as a step of a region that draws.
-/
namespace Go.Proofs.YtbnnjbfbifihaaaGreatDoor
open Go.RowKit

theorem run_append_nilx {P : Program} (w : World) (base : Nat) (t ty e : TypeId) (i : TypeInfo) (size : Nat) (ht : P.underlying t = some (.slice e)) (hi : P.info? e = some i)
    (v : Value) (n : Nat) (xs : List Value) (hown : w.ownsRow base e size v n xs) (c : Nat) :
    (Builtin.append_ #[t, t] ty #[v, .slice none 0 c]).run P w = .ok v w := by
  rcases hown.2 with ⟨rfl, rfl⟩ | ⟨g, cap, cur, rfl, _, _, hle, _⟩
  · simp [Builtin.append_, run_underlying ht, sizeOf, typeInfo, hi, Builtin.lenOf, Builtin.firstCells]
  · simp [Builtin.append_, run_underlying ht, sizeOf, typeInfo, hi, Builtin.lenOf, Builtin.firstCells, hle, storeCells]

theorem Tryz.strInfo : (Tryz.prog.info? 9).map (fun i => (i.zero, i.size, i.bytes)) = some (some (.string ⟨#[]⟩), 1, 16) := by kernel_rfl

theorem strs_news {w : World} {P : Nat → Prop} {xs : List ByteArray} {ad : Addr} {c : Nat} (h : StrsP P w (.slice (some ad) xs.length c) xs) : ∀ j u, (xs.map (Value.string))[j]? = some u → w.cell? (ad.add j) = some u := by
  intro j u hu
  rcases h with ⟨o', c', _, rfl⟩ | ⟨b, off, cap, hv, _, _, _, h4⟩
  · simp at hu
  · cases hv
    rw [List.getElem?_map] at hu
    obtain ⟨x, hx, rfl⟩ := Option.map_eq_some_iff.1 hu
    obtain ⟨hj, rfl⟩ := List.getElem?_eq_some_iff.1 hx
    rw [Addr.add_lit]
    exact (h4 j hj).1

theorem strs_one {xs : List ByteArray} : ∀ u ∈ xs.map (Value.string), u.oneCell' = true := by
  intro u hu
  obtain ⟨x, _, rfl⟩ := List.mem_map.1 hu
  rfl

/-- append onto an own row, of a list of numbers in whatever slice -/
theorem run_append_strs (w : World) (base : Nat) (ty : TypeId) (v : Value) (n : Nat) (ys : List Value) (hown : w.ownsRow base 9 1 v n ys) (hb : base ≤ w.heap.size) (P : Nat → Prop) (xv : Value) (xs : List ByteArray) (hx : StrsP P w xv xs)
    (h6 : n + xs.length ≤ 1000000) :
    ∃ v' w', (Builtin.append_ #[32, 32] ty #[v, xv]).run Tryz.prog w = .ok v' w' ∧ w'.ownsRow base 9 1 v' (n + xs.length) (ys ++ xs.map (Value.string)) ∧ w.grownBy w' v.ownBlock := by
  obtain ⟨i0, hi, hz0, hz1, hz2⟩ := info_parts Tryz.strInfo
  obtain ⟨o, c, rfl⟩ := hx.shape
  cases o with
  | none =>
    have h0 : xs = [] := by
      rcases hx with ⟨_, _, _, rfl⟩ | ⟨_, _, _, hv, _⟩
      · rfl
      · cases hv
    subst h0
    refine ⟨v, w, run_append_nilx w base _ ty _ i0 1 Tryz.underlying32 hi v n ys hown c, by simpa using hown, ⟨rfl, rfl, rfl, Nat.le_refl _, fun _ _ _ => rfl⟩⟩
  | some ad =>
    obtain ⟨v', w', r1, r2, r3, _⟩ := run_append_own (P := Tryz.prog) w base 32 ty 9 i0 (.string ⟨#[]⟩) 1 16 Tryz.underlying32 hi hz0 hz1 hz2 rfl (by decide) v n ys hown ad xs.length c (xs.map (Value.string)) (by simp) (strs_news hx) strs_one (by unfold maxLen; omega) (by omega) hb
    exact ⟨v', w', r1, r2, r3⟩

theorem wp_append_strs {o : Oper} {a : Act} {w : World} {K : Act → World → Prop} {Q : Exit → Act → World → Prop} (s x : Operand)
    (ho : o.op = .call { callee := .builtin .append, args := #[s, x], argTypes := #[32, 32] })
    (base : Nat) (v : Value) (n : Nat) (ys : List Value) (hs : a.eval s = v) (hown : w.ownsRow base 9 1 v n ys) (hb : base ≤ w.heap.size) (P : Nat → Prop) (xv : Value) (xs : List ByteArray) (hxv : a.eval x = xv) (hx : StrsP P w xv xs) (h6 : n + xs.length ≤ 1000000)
    (h : ∀ v' w', w'.ownsRow base 9 1 v' (n + xs.length) (ys ++ xs.map (Value.string)) → w.grownBy w' v.ownBlock → K (a.put o.dst v') w') : o.wp Tryz.prog a w K Q := by
  obtain ⟨v', w', hr, h2, h3⟩ := run_append_strs w base o.type v n ys hown hb P xv xs hx h6
  unfold Oper.wp execOp
  simp only [ho, resolve, invoke, builtin, Sem.run_bind, Sem.run_pure, Result.andThen_ok, List.map_toArray, List.map_cons, List.map_nil, hs, hxv, hr]
  exact h v' w' h2 h3

theorem wpList_append_strs {ops : Array Oper} {rest : List Oper} {o : Oper} {a : Act} {w : World} {Q : Exit → Act → World → Prop} (hgd : o.guard = none) (s x : Operand)
    (ho : o.op = .call { callee := .builtin .append, args := #[s, x], argTypes := #[32, 32] })
    (base : Nat) (v : Value) (n : Nat) (ys : List Value) (hs : a.eval s = v) (hown : w.ownsRow base 9 1 v n ys) (hb : base ≤ w.heap.size) (P : Nat → Prop) (xv : Value) (xs : List ByteArray) (hxv : a.eval x = xv) (hx : StrsP P w xv xs) (h6 : n + xs.length ≤ 1000000)
    (h : ∀ v' w', w'.ownsRow base 9 1 v' (n + xs.length) (ys ++ xs.map (Value.string)) → w.grownBy w' v.ownBlock → wpList Tryz.prog ops Q rest (a.put o.dst v') w') : wpList Tryz.prog ops Q (o :: rest) a w :=
  wpList_plain hgd fun _ hK => wp_append_strs s x ho base v n ys hs hown hb P xv xs hxv hx h6 fun v' w' h2 h3 => hK _ _ (h v' w' h2 h3)

theorem step_append_strs {ops : Array Oper} {o : Oper} {a : Act} {w : World} {K : Act → World → Prop} {Q : Exit → Act → World → Prop} {E : Prop} (hgd : o.guard = none) (s x : Operand)
    (ho : o.op = .call { callee := .builtin .append, args := #[s, x], argTypes := #[32, 32] })
    (base : Nat) (v : Value) (n : Nat) (ys : List Value) (hs : a.eval s = v) (hown : w.ownsRow base 9 1 v n ys) (hb : base ≤ w.heap.size) (P : Nat → Prop) (xv : Value) (xs : List ByteArray) (hxv : a.eval x = xv) (hx : StrsP P w xv xs) (h6 : n + xs.length ≤ 1000000)
    (h : ∀ v' w', w'.ownsRow base 9 1 v' (n + xs.length) (ys ++ xs.map (Value.string)) → w.grownBy w' v.ownBlock → K (a.put o.dst v') w') :
    if Region.wanted o (yielded ops a.tmps) = true then Oper.wp Tryz.prog o a w K Q else E := by
  have hw : Region.wanted o (yielded ops a.tmps) = true := by simp [Region.wanted, hgd]
  rw [if_pos hw]
  exact wp_append_strs s x ho base v n ys hs hown hb P xv xs hxv hx h6 h

theorem strs_of_owns {w : World} {B n : Nat} {v : Value} {xs : List ByteArray} (h : w.ownsRow B 9 1 v n (xs.map (Value.string))) (hn : n = xs.length) (hb : ∀ x ∈ xs, x.size ≤ 9223372036854775807) : StrsP (fun b => B ≤ b ∧ b < w.heap.size) w v xs := by
  subst hn
  have h0 := h
  rcases h.2 with ⟨rfl, h1⟩ | ⟨g, cap, cur, rfl, hbg, hg, hle, hcap, _⟩
  · exact .inl ⟨_, _, rfl, List.length_eq_zero_iff.1 h1⟩
  · refine .inr ⟨g, 0, cap, rfl, ⟨hbg, (Array.getElem?_eq_some_iff.1 hg).1⟩, hle, by unfold maxLen at hcap; omega, fun k hk => ⟨?_, hb _ (List.getElem_mem hk)⟩⟩
    rw [Nat.zero_add]
    have := h0.cells rfl k (.string xs[k]) (by simp [hk])
    rwa [Addr.add_lit, Nat.zero_add] at this

/-- a slice's first elements -/
theorem StrsP.take {P : Nat → Prop} {w : World} {o : Option Addr} {c : Nat} {xs : List ByteArray} (h : StrsP P w (.slice o xs.length c) xs) (k : Nat) (hk : k ≤ xs.length) : StrsP P w (.slice o k c) (xs.take k) := by
  have hl : (xs.take k).length = k := by rw [List.length_take, Nat.min_eq_left hk]
  rcases h with ⟨o', c', hv, rfl⟩ | ⟨b, off, cap, hv, h1, h2, h3, h4⟩
  · have : k = 0 := by simpa using hk
    subst this
    exact .inl ⟨_, _, rfl, rfl⟩
  · cases hv
    refine .inr ⟨b, off, c, by rw [hl], h1, by omega, h3, fun j hj => ?_⟩
    have hj' : j < xs.length := by omega
    have := h4 j hj'
    rw [List.getElem_take]
    exact this

end Go.Proofs.YtbnnjbfbifihaaaGreatDoor

/-
  The contract of the formula reference's inserted.
-/
namespace Go.Proofs.YtbnnjbfbifihaaaGreatDoor
open Go.RowKit

/-- sorted strings with a further one -/
def insFrom (l0 : List ByteArray) (s : ByteArray) : List ByteArray → List ByteArray → List ByteArray
  | [], out => out ++ s :: l0.drop out.length
  | x :: r, out => if x.toList == s.toList then l0 else if Op.bytesLess x.toList s.toList then insFrom l0 s r (out ++ [x]) else insFrom l0 s r out
def insL (l : List ByteArray) (s : ByteArray) : List ByteArray := insFrom l s l []

theorem strs_own_none (W : World) : W.ownsRow W.heap.size 9 1 (.slice none 0 0) 0 [] := ⟨rfl, .inl ⟨rfl, rfl⟩⟩

theorem own_shape {w : World} {B n : Nat} {u : Value} {ys : List Value} (hown : w.ownsRow B 9 1 u n ys) : ∃ u0 uc, u = .slice u0 n uc := by
  rcases hown.2 with ⟨rfl, h⟩ | ⟨g, cap, cur, rfl, _⟩
  · subst h; exact ⟨_, _, rfl⟩
  · exact ⟨_, _, rfl⟩

theorem strs_new (W : World) (t : TypeId) (s : ByteArray) (hs : s.size ≤ 9223372036854775807) : StrsP (fun _ => True) (W.alloc (.cells #[.string s] t)) (.slice (some ⟨W.heap.size, 0, none⟩) 1 1) [s] := by
  refine .inr ⟨W.heap.size, 0, 1, rfl, trivial, by simp, by decide, fun k hk => ?_⟩
  obtain rfl : k = 0 := by simpa using hk
  exact ⟨cell_one_new _ _ _ 0 _ rfl, hs⟩

theorem strs_drop {W : World} {b off c n : Nat} {l : List ByteArray} (h1 : l.length ≤ c) (h2 : c ≤ 9223372036854775807) (hn : n ≤ l.length) (h : ∀ k (h : k < l.length), W.cell? ⟨b, off + k, none⟩ = some (.string l[k]) ∧ l[k].size ≤ 9223372036854775807) :
    StrsP (fun _ => True) W (.slice (some ⟨b, off + n, none⟩) (l.length - n) (c - n)) (l.drop n) := by
  refine .inr ⟨b, off + n, c - n, by rw [List.length_drop], trivial, by rw [List.length_drop]; omega, by omega, fun k hk => ?_⟩
  rw [List.length_drop] at hk
  rw [List.getElem_drop, show off + n + k = off + (n + k) by omega]
  exact h _ (by omega)

set_option maxRecDepth 100000 in
set_option maxHeartbeats 4000000 in
theorem inserted_any (P : Nat → Prop) (v : Value) (l : List ByteArray) (s : ByteArray) (w : World) (hv : StrsP P w v l) (hP : ∀ b, P b → b < w.heap.size) (hs : s.size ≤ 9223372036854775807) (hl : l.length ≤ 999999) :
    Calls Tryz.prog 90 #[v, .string s] w fun e w' => ∃ r, e = .returned r ∧ StrsP (NewP P w w') w' r (insL l s) ∧ Below w.heap.size w w' := by
  obtain ⟨o, c, rfl⟩ := hv.shape
  obtain ⟨i0, hi, hz0, hz1, hz2⟩ := info_parts Tryz.strInfo
  go_enter Tryz.func90, Tryz.ntmps90
  go_wp2
  go_loopw [5, 6] (fun u i wr => ∃ (k n : Nat) (ys : List ByteArray) (u0 : Option Addr) (uc : Nat), u = .slice u0 n uc ∧ k ≤ l.length ∧ n ≤ k ∧ ys.length = n ∧ i = .int .i64 k ∧ wr.ownsRow w.heap.size 9 1 (.slice u0 n uc) n (ys.map Value.string) ∧ Below w.heap.size w wr ∧ Hid (insL l s = insFrom l s (l.drop k) ys) ∧ (∀ x ∈ ys, x.size ≤ 9223372036854775807)) (fun _ i _ => l.length - (intOf i).toNat)
  case atStart => exact ⟨0, 0, [], _, _, rfl, Nat.zero_le _, Nat.le_refl _, rfl, rfl, strs_own_none w, Below.refl _ _, rfl, fun x h => by cases h⟩
  case round =>
    obtain ⟨k, n, ys, u0, uc, rfl, hk, hnk, hyl, rfl, hown, hB, hF, hsz⟩ := hrel
    have hyl' := hidi hyl
    clear hyl
    by_cases hlt : k < l.length
    · obtain ⟨b, off, rfl, hb, hcap, hcm, hat⟩ := hv.at (by omega)
      obtain ⟨d0, hsk⟩ := hat k hlt
      have d1 := (hB.cell (p := ⟨b, off + k, none⟩) (hP b hb)).trans d0
      have hd : Hid (l.drop k = l[k] :: l.drop (k + 1)) := List.drop_eq_getElem_cons hlt
      generalize l[k] = x at *
      cases q1 : (x.toList == s.toList)
      · cases q2 : Op.bytesLess x.toList s.toList
        · have hS : Hid (insL l s = insFrom l s (l.drop (k + 1)) ys) := by unfold Hid; rw [hF.out, hd.out, insFrom, q1, q2]; rfl
          go_wp2
          go_roundw
          case rel => exact ⟨k + 1, n, ys, _, _, rfl, by omega, by omega, hyl'.out, by go_num, hown, hB, hS, hsz⟩
          case measure => simp [intOf]; omega
        · have hS : Hid (insL l s = insFrom l s (l.drop (k + 1)) (ys ++ [x])) := by unfold Hid; rw [hF.out, hd.out, insFrom, q1, q2]; rfl
          have hlt2 := hown.lt
          go_wp2_with (at_builtin; refine wpList_append_own _ rfl _ _ 32 rfl w.heap.size 9 i0 (.string ⟨#[]⟩) 1 16 Tryz.underlying32 hi hz0 hz1 hz2 rfl (by decide) _ _ _ rfl (hown.alloc _) ⟨wr.heap.size, 0, none⟩ 1 1 [.string x] rfl rfl ?c1 ?c2 ?c3 ?c4 ?c5 ?_)
          case c1 => exact cell_one_new _ _ _
          case c2 => simp [Value.oneCell']
          case c3 => unfold maxLen; omega
          case c4 => omega
          case c5 => have := hB.size; simp; omega
          intro v' w2 hown2 hgrow _
          have hB2 : Below w.heap.size w w2 := (hB.alloc hB.size _).grown hgrow (by have := hB.size; simp; omega) (fun k e => (hlt2 k e).1)
          clear hown hgrow hlt2 hB d1
          obtain ⟨v0, vc, rfl⟩ := own_shape hown2
          go_wp2
          go_roundw
          case rel => exact ⟨k + 1, n + 1, ys ++ [x], _, _, rfl, by omega, by omega, by simp [hyl'.out], by go_num, by rw [List.map_append]; exact hown2, hB2, hS, fun z hz => by rcases List.mem_append.1 hz with hz | hz; exact hsz z hz; (obtain rfl : z = x := by simpa using hz); exact hsk⟩
          case measure => simp [intOf]; omega
      · have hS : Hid (insL l s = l) := by unfold Hid; rw [hF.out, hd.out, insFrom, q1]; rfl
        go_wp2
        go_ret
        exact ⟨_, rfl, by rw [hS.out]; exact (hv.kept hB hP).mono fun b h => .inl h, hB⟩
    · obtain rfl : k = l.length := by omega
      have hS : Hid (insL l s = ys ++ s :: l.drop n) := by unfold Hid; rw [hF.out, List.drop_of_length_le (Nat.le_refl _), insFrom, hyl'.out]
      by_cases h0 : 0 < l.length
      · obtain ⟨b, off, rfl, hb, hcap, hcm, hat⟩ := hv.at h0
        obtain ⟨A, hA, hA2⟩ : ∃ A : Addr, (if c = n then some (⟨b, off, none⟩ : Addr) else some ⟨b, off + n, none⟩) = some A ∧
            Hid (∀ W, Below w.heap.size w W → StrsP (fun _ => True) W (.slice (some A) (l.length - n) (c - n)) (l.drop n)) := by
          by_cases h : c = n
          · refine ⟨⟨b, off, none⟩, by simp [h], fun W _ => ?_⟩
            rw [List.drop_of_length_le (by omega), show l.length - n = 0 by omega]
            exact .inl ⟨_, _, rfl, rfl⟩
          · refine ⟨⟨b, off + n, none⟩, by simp [h], fun W hW => ?_⟩
            exact strs_drop hcap hcm hnk fun k hk => ⟨(hW.cell (p := ⟨b, off + k, none⟩) (hP b hb)).trans (hat k hk).1, (hat k hk).2⟩
        have hls : ∀ x ∈ l, x.size ≤ 9223372036854775807 := fun x hx => by obtain ⟨k, hk, rfl⟩ := List.getElem_of_mem hx; exact (hat k hk).2
        have p0 : (0 : Int) ≤ (n : Int) := by omega
        have p1 : (n : Int) ≤ (l.length : Int) := by omega
        have p2 : n ≤ c := by omega
        have hnk' := hidi hnk
        have hl' := hidi hl
        clear hk hlt hat hnk hl h0 hcap
        go_wp2
        go_region_law (first
          | (refine step_append_strs rfl (.tmp 36) (.tmp 38) rfl w.heap.size (.slice u0 n uc) n (ys.map Value.string) (by simp [Act.eval]) (hown.drew.alloc _) (Nat.le_trans hB.size (by simp)) (fun _ => True) (.slice (some ⟨wr.heap.size, 0, none⟩) 1 1) [s] (by simp [Act.eval]) (strs_new _ _ s hs) (by have := hnk'.out; have := hl'.out; simp; omega) ?_
             intro v6 w6 hown6 hgrow6
             have hB6 := (hB.drew.alloc hB.size _).grown hgrow6 (Nat.le_trans hB.size (by simp)) (fun k e => (hown.lt k e).1))
          | (refine step_append_strs rfl (.tmp 39) (.tmp 42) rfl w.heap.size v6 (n + [s].length) (ys.map Value.string ++ [s].map Value.string) (by simp [Act.eval]) hown6 hB6.size (fun _ => True) (.slice (some A) (l.length - n) (c - n)) (l.drop n) (by simp [Act.eval]) (hA2.out _ hB6) (by have := hnk'.out; have := hl'.out; simp; omega) ?_
             intro v7 w7 hown7 hgrow7
             have hB7 := hB6.grown hgrow7 hB6.size (fun k e => (hown6.lt k e).1)))
        have hI := strs_of_owns (xs := (ys ++ [s]) ++ l.drop n) (by rw [List.map_append, List.map_append]; exact hown7) (by simp [hyl'.out]; omega) (fun x hx => by
          rcases List.mem_append.1 hx with hx | hx
          · rcases List.mem_append.1 hx with hx | hx
            · exact hsz x hx
            · obtain rfl : x = s := by simpa using hx
              exact hs
          · exact hls x (List.mem_of_mem_drop hx))
        have hE : Hid ((ys ++ [s]) ++ l.drop n = insL l s) := by unfold Hid; rw [hS.out]; simp
        rw [hE.out] at hI
        clear hown hgrow6 hown6 hgrow7 hown7 hB hB6
        go_wp2
        go_ret
        exact ⟨_, rfl, hI.mono fun b h => .inr h, hB7⟩
      · obtain rfl : l = [] := List.eq_nil_of_length_eq_zero (by omega)
        obtain rfl : n = 0 := by simpa using hnk
        have hls : ∀ x ∈ ([] : List ByteArray), x.size ≤ 9223372036854775807 := fun x hx => by cases hx
        clear hk hlt
        simp only [List.length_nil] at *
        cases o
        all_goals
          go_wp2
          go_region_law (first
            | (refine step_append_strs rfl (.tmp 36) (.tmp 38) rfl w.heap.size (.slice u0 0 uc) 0 (ys.map Value.string) (by simp [Act.eval]) (hown.drew.alloc _) (Nat.le_trans hB.size (by simp)) (fun _ => True) (.slice (some ⟨wr.heap.size, 0, none⟩) 1 1) [s] (by simp [Act.eval]) (strs_new _ _ s hs) (by simp) ?_
               intro v6 w6 hown6 hgrow6
               have hB6 := (hB.drew.alloc hB.size _).grown hgrow6 (Nat.le_trans hB.size (by simp)) (fun k e => (hown.lt k e).1))
            | (refine step_append_strs rfl (.tmp 39) (.tmp 42) rfl w.heap.size v6 (0 + [s].length) (ys.map Value.string ++ [s].map Value.string) (by simp [Act.eval]) hown6 hB6.size (fun _ => True) _ [] rfl (.inl ⟨_, _, rfl, rfl⟩) (by simp) ?_
               intro v7 w7 hown7 hgrow7
               have hB7 := hB6.grown hgrow7 hB6.size (fun k e => (hown6.lt k e).1)))
          have hI := strs_of_owns (xs := (ys ++ [s]) ++ []) (by rw [List.map_append, List.map_append]; exact hown7) (by simp [hyl'.out]) (fun x hx => by
            rcases List.mem_append.1 hx with hx | hx
            · rcases List.mem_append.1 hx with hx | hx
              · exact hsz x hx
              · obtain rfl : x = s := by simpa using hx
                exact hs
            · cases hx)
          have hE : Hid ((ys ++ [s]) ++ [] = insL [] s) := by unfold Hid; rw [hS.out]; simp
          rw [hE.out] at hI
          clear hown hgrow6 hown6 hgrow7 hown7 hB hB6
          go_wp2
          go_ret
          exact ⟨_, rfl, hI.mono fun b h => .inr h, hB7⟩

end Go.Proofs.YtbnnjbfbifihaaaGreatDoor

/-
  Contracts of the formula reference's named and Names.
-/
namespace Go.Proofs.YtbnnjbfbifihaaaGreatDoor
open Go.RowKit

mutual
/-- sorted strings with the names of a formula -/
def namedF : Fm → List ByteArray → List ByteArray | .mk op nm _ _ a, l => namedFs a (if op = 3 then insL l nm else l)
def namedFs : List Fm → List ByteArray → List ByteArray | [], l => l | f :: r, l => namedFs r (namedF f l)
end
theorem namedF_is {f : Fm} (h : f.op = 3) (l : List ByteArray) : namedF f l = namedFs f.args (insL l f.name) := by
  cases f with
  | mk op nm v b a =>
    have h' : op = 3 := h
    rw [namedF, if_pos h']; rfl
theorem namedF_not {f : Fm} (h : ¬ f.op = 3) (l : List ByteArray) : namedF f l = namedFs f.args l := by
  cases f with
  | mk op nm v b a =>
    have h' : ¬ op = 3 := h
    rw [namedF, if_neg h']; rfl
/-- the names of a formula -/
def namesF (f : Fm) : List ByteArray := namedF f []

theorem insFrom_length {l0 : List ByteArray} {s : ByteArray} : ∀ {r out : List ByteArray}, out.length + r.length ≤ l0.length → (insFrom l0 s r out).length ≤ l0.length + 1
  | [], out, h => by simp at h; simp [insFrom]; omega
  | x :: r, out, h => by
    simp at h
    rw [insFrom]
    split
    · omega
    · split
      · exact insFrom_length (by simp; omega)
      · exact insFrom_length (by omega)
theorem insL_length (l : List ByteArray) (s : ByteArray) : (insL l s).length ≤ l.length + 1 := insFrom_length (by simp)

theorem namedF_length (f : Fm) : ∀ l : List ByteArray, (namedF f l).length ≤ l.length + f.nodes := by
  induction f using Fm.ind with
  | h f ih =>
    have hs : ∀ (r : List Fm), (∀ g ∈ r, g ∈ f.args) → ∀ l : List ByteArray, (namedFs r l).length ≤ l.length + Fm.nodesL r := by
      intro r
      induction r with
      | nil => intro _ l; rw [namedFs]; omega
      | cons g r ihr =>
        intro hr l
        rw [namedFs, Fm.nodesL_cons]
        have h1 := ihr (fun x hx => hr x (List.mem_cons_of_mem _ hx)) (namedF g l)
        have h2 := ih g (hr g (List.mem_cons_self ..)) l
        omega
    intro l
    rw [Fm.nodes_eq]
    by_cases h : f.op = 3
    · rw [namedF_is h]
      have h1 := hs f.args (fun _ h => h) (insL l f.name)
      have h2 := insL_length l f.name
      omega
    · rw [namedF_not h]
      have h1 := hs f.args (fun _ h => h) l
      omega

theorem newP_lt {P : Nat → Prop} {w w' : World} (hP : ∀ b, P b → b < w.heap.size) (h : w.heap.size ≤ w'.heap.size) : ∀ b, NewP P w w' b → b < w'.heap.size := by
  rintro b (hb | ⟨-, hb⟩)
  · exact Nat.lt_of_lt_of_le (hP b hb) h
  · exact hb
theorem newP_next {P : Nat → Prop} {w w1 w2 : World} {v : Value} {l : List ByteArray} (h1 : w.heap.size ≤ w1.heap.size) (h2 : w1.heap.size ≤ w2.heap.size) (h : StrsP (NewP (NewP P w w1) w1 w2) w2 v l) : StrsP (NewP P w w2) w2 v l := by
  refine h.mono ?_
  rintro b ((hb | ⟨h3, h4⟩) | ⟨h3, h4⟩)
  · exact .inl hb
  · exact .inr ⟨h3, by omega⟩
  · exact .inr ⟨by omega, h4⟩
theorem newP_base {P : Nat → Prop} {w w1 w2 : World} {v : Value} {l : List ByteArray} (h1 : w.heap.size ≤ w1.heap.size) (h : StrsP (NewP P w1 w2) w2 v l) : StrsP (NewP P w w2) w2 v l := by
  refine h.mono ?_
  rintro b (hb | ⟨h3, h4⟩)
  · exact .inl hb
  · exact .inr ⟨by omega, h4⟩

set_option maxRecDepth 100000 in
set_option maxHeartbeats 2000000 in
theorem named_any (f : Fm) : ∀ (P : Nat → Prop) (B : Nat) (u v : Value) (l : List ByteArray) (w : World), StrsP P w u l → (∀ b, P b → b < w.heap.size) → FAt B w v f → B ≤ w.heap.size → l.length + f.nodes ≤ 999999 →
    Calls Tryz.prog 64 #[u, v] w fun e w' => ∃ r, e = .returned r ∧ StrsP (NewP P w w') w' r (namedF f l) ∧ Below w.heap.size w w' := by
  induction f using Fm.ind with
  | h f ih =>
    intro P B u v l w hu0 hP hv hBw hn
    obtain ⟨o, c, rfl, hfit, hA⟩ := hv.open
    have hA' := hA.mono hBw
    have hlen := hA.len
    obtain ⟨W0, hW0, hB0, hc, hlt⟩ := fm_open w (.int .i64 f.op) (.string f.name) (.int .i64 f.val) (.int .i64 f.bound) (.slice o f.args.length c)
    obtain ⟨d0, d1, d2, d3, d4⟩ := hc.out
    rw [Nat.zero_add] at d1 d2 d3 d4
    have hnn : l.length + 1 + Fm.nodesL f.args ≤ 999999 := by rw [f.nodes_eq] at hn; omega
    by_cases h3 : f.op = 3
    · have q : (f.op == 3) = true := by simp [h3]
      have hN := hidi (namedF_is h3 l)
      have hl1 := insL_length l f.name
      clear h3
      go_enter Tryz.func64, Tryz.ntmps64
      go_wp2_with fail
      rw [hW0.out]
      go_wp2_with (go_at_call 90; refine (inserted_any P _ l f.name _ (hu0.kept hB0 hP) (fun b hb => Nat.lt_of_lt_of_le (hP b hb) hB0.size) hfit.2.1 (by omega)).mono ?_; rintro e w1 ⟨r1, rfl, hr1, hb1⟩; have hu := newP_base hB0.size hr1; have hBx := hb1; clear d0 d1 d2 d3 d4; obtain ⟨d0, d1, d2, d3, d4⟩ := hc.out.later hBx hlt; rw [Nat.zero_add] at d1 d2 d3 d4; clear hb1 hr1)
      go_loopw [0, 5] (fun u i wr => ∃ (k : Nat) (l1 : List ByteArray), k ≤ f.args.length ∧ i = .int .i64 k ∧ StrsP (NewP P w wr) wr u l1 ∧ l1.length ≤ l.length + 1 + Fm.nodesL (f.args.take k) ∧ Hid (namedF f l = namedFs (f.args.drop k) l1) ∧ Below W0.heap.size W0 wr) (fun _ i _ => f.args.length - (intOf i).toNat)
      case atStart => exact ⟨0, _, Nat.zero_le _, rfl, hu, by (have := hl1; simp [Fm.nodesL_nil] <;> omega), hN, hBx⟩
      case round =>
        clear hu hl1 hN d0 d1 d2 d3 d4 hBx
        obtain ⟨k, l1, hk, rfl, hu, hl1, hD, hB⟩ := hrel
        obtain ⟨d0, d1, d2, d3, d4⟩ := hc.out.later hB hlt
        rw [Nat.zero_add] at d1 d2 d3 d4
        have hW := hB0.trans (hB.mono hB0.size)
        by_cases hlt2 : k < f.args.length
        · obtain ⟨b, off, rfl, hb, hat⟩ := hA'.at (by omega)
          obtain ⟨sl, hc5, hF⟩ := hat k hlt2
          obtain ⟨e0, e1, e2, e3, e4⟩ := hc5.below hW hb
          have hS := hidi (Fm.nodesL_take hlt2)
          have hg2 := Fm.nodesL_take_le f.args (k + 1)
          rw [hS.out] at hg2
          have hd : Hid (namedF f l = namedFs (f.args.drop (k + 1)) (namedF f.args[k] l1)) := by unfold Hid; rw [hD.out, List.drop_eq_getElem_cons hlt2, namedFs]
          have hmem := List.getElem_mem hlt2
          have hsub : ∀ b, NewP P w _ b → b < _ := newP_lt hP hW.size
          generalize f.args[k] = g at *
          have hnl2 := namedF_length g l1
          have hs1 := hidi hl1
          clear hl1
          go_wp2_with (go_at_call 64; refine (ih g hmem _ w.heap.size _ (fval g sl) l1 _ hu hsub (hF.kept hW (Nat.le_refl _)) hW.size (by have := hs1.out; omega)).mono ?_; rintro e w1 ⟨r1, rfl, hr1, hb1⟩; have hr1 := newP_next hW.size hb1.size hr1; have hB := hB.trans (hb1.mono hB.size); clear hb1)
          go_roundw
          case rel => exact ⟨k + 1, namedF g l1, by omega, by go_num, hr1, by have := hs1.out; rw [hS.out]; omega, hd, hB⟩
          case measure => simp [intOf]; omega
        · obtain rfl : k = f.args.length := by omega
          have hE : Hid (l1 = namedF f l) := by unfold Hid; rw [hD.out, List.drop_of_length_le (Nat.le_refl _), namedFs]
          go_wp2
          go_ret
          exact ⟨_, rfl, by rw [← hE.out]; exact hu, hW⟩
    · have q : (f.op == 3) = false := by simp [h3]
      have hN := hidi (namedF_not h3 l)
      have hl1 : l.length ≤ l.length + 1 := by omega
      have hu : StrsP (NewP P w W0) W0 u l := (hu0.kept hB0 hP).mono fun _ h => .inl h
      have hBx := Below.refl W0.heap.size W0
      clear h3
      go_enter Tryz.func64, Tryz.ntmps64
      go_wp2_with fail
      rw [hW0.out]
      go_wp2_with fail
      go_loopw [0, 5] (fun u i wr => ∃ (k : Nat) (l1 : List ByteArray), k ≤ f.args.length ∧ i = .int .i64 k ∧ StrsP (NewP P w wr) wr u l1 ∧ l1.length ≤ l.length + 1 + Fm.nodesL (f.args.take k) ∧ Hid (namedF f l = namedFs (f.args.drop k) l1) ∧ Below W0.heap.size W0 wr) (fun _ i _ => f.args.length - (intOf i).toNat)
      case atStart => exact ⟨0, _, Nat.zero_le _, rfl, hu, by (have := hl1; simp [Fm.nodesL_nil] <;> omega), hN, hBx⟩
      case round =>
        clear hu hl1 hN d0 d1 d2 d3 d4 hBx
        obtain ⟨k, l1, hk, rfl, hu, hl1, hD, hB⟩ := hrel
        obtain ⟨d0, d1, d2, d3, d4⟩ := hc.out.later hB hlt
        rw [Nat.zero_add] at d1 d2 d3 d4
        have hW := hB0.trans (hB.mono hB0.size)
        by_cases hlt2 : k < f.args.length
        · obtain ⟨b, off, rfl, hb, hat⟩ := hA'.at (by omega)
          obtain ⟨sl, hc5, hF⟩ := hat k hlt2
          obtain ⟨e0, e1, e2, e3, e4⟩ := hc5.below hW hb
          have hS := hidi (Fm.nodesL_take hlt2)
          have hg2 := Fm.nodesL_take_le f.args (k + 1)
          rw [hS.out] at hg2
          have hd : Hid (namedF f l = namedFs (f.args.drop (k + 1)) (namedF f.args[k] l1)) := by unfold Hid; rw [hD.out, List.drop_eq_getElem_cons hlt2, namedFs]
          have hmem := List.getElem_mem hlt2
          have hsub : ∀ b, NewP P w _ b → b < _ := newP_lt hP hW.size
          generalize f.args[k] = g at *
          have hnl2 := namedF_length g l1
          have hs1 := hidi hl1
          clear hl1
          go_wp2_with (go_at_call 64; refine (ih g hmem _ w.heap.size _ (fval g sl) l1 _ hu hsub (hF.kept hW (Nat.le_refl _)) hW.size (by have := hs1.out; omega)).mono ?_; rintro e w1 ⟨r1, rfl, hr1, hb1⟩; have hr1 := newP_next hW.size hb1.size hr1; have hB := hB.trans (hb1.mono hB.size); clear hb1)
          go_roundw
          case rel => exact ⟨k + 1, namedF g l1, by omega, by go_num, hr1, by have := hs1.out; rw [hS.out]; omega, hd, hB⟩
          case measure => simp [intOf]; omega
        · obtain rfl : k = f.args.length := by omega
          have hE : Hid (l1 = namedF f l) := by unfold Hid; rw [hD.out, List.drop_of_length_le (Nat.le_refl _), namedFs]
          go_wp2
          go_ret
          exact ⟨_, rfl, by rw [← hE.out]; exact hu, hW⟩

set_option maxRecDepth 100000 in
set_option maxHeartbeats 1000000 in
theorem refnames_any (f : Fm) (B : Nat) (v : Value) (w : World) (hv : FAt B w v f) (hBw : B ≤ w.heap.size) (hn : f.nodes ≤ 999999) :
    Calls Tryz.prog 27 #[v] w fun e w' => ∃ r, e = .returned r ∧ StrsP (fun b => w.heap.size ≤ b ∧ b < w'.heap.size) w' r (namesF f) ∧ Below w.heap.size w w' := by
  obtain ⟨o, c, rfl, hfit, hA⟩ := hv.open
  have hv' := hv.mono hBw
  obtain ⟨W0, hW0, hB0, hc, hlt⟩ := fm_open w (.int .i64 f.op) (.string f.name) (.int .i64 f.val) (.int .i64 f.bound) (.slice o f.args.length c)
  obtain ⟨d0, d1, d2, d3, d4⟩ := hc.out
  rw [Nat.zero_add] at d1 d2 d3 d4
  go_enter Tryz.func27, Tryz.ntmps27
  go_wp2_with fail
  rw [hW0.out]
  go_wp2_with (go_at_call 64; refine (named_any f (fun _ => False) w.heap.size _ _ [] _ (.inl ⟨_, _, rfl, rfl⟩) (fun _ h => h.elim) (hv'.kept hB0 (Nat.le_refl _)) hB0.size (by simpa using hn)).mono ?_; rintro e w1 ⟨r1, rfl, hr1, hb1⟩)
  go_ret
  exact ⟨_, rfl, hr1.mono (by
    rintro b (h | ⟨h1, h2⟩)
    · exact h.elim
    · exact ⟨Nat.le_trans hB0.size h1, h2⟩), hB0.trans (hb1.mono hB0.size)⟩

end Go.Proofs.YtbnnjbfbifihaaaGreatDoor
