/-
  The lexer's scan: what a token's function answers at an offset; tokens in memory.
-/
import Derived.Test.YtplahgcbeanfnaaLxF
import Derived.Deep.QuietTactic
import Derived.BigQuiet
import Derived.Deep.AppendLies
import Derived.Deep.RegionHeld3
import Derived.LoopN
namespace Go.Proofs.Ytplahgcbeanfnaa
open Go.RowKit

theorem quiet_add_left {P : Program} {f : FuncId} {args : Array Value} {w : World} {a n : Nat} {v : Value}
    (h : Calls P f args (w.drewN (a + n)) fun e w' => e = .returned v ∧ w.drewN (a + n) = w') :
    Calls P f args (w.drewN (a + n)) fun e w'' => e = .returned v ∧ ∃ m, w'' = w.drewN (a + m) :=
  h.mono fun _ _ ⟨he, hm⟩ => ⟨he, n, hm.symm⟩
theorem quiet_left {P : Program} {f : FuncId} {args : Array Value} {w : World} {n : Nat} {v : Value}
    (h : Calls P f args (w.drewN n) fun e w' => e = .returned v ∧ w.drewN n = w') : Calls P f args (w.drewN n) fun e w'' => e = .returned v ∧ ∃ m, w'' = w.drewN m :=
  h.mono fun _ _ ⟨he, hm⟩ => ⟨he, n, hm.symm⟩

theorem ext_pos {s : ByteArray} {p : Nat} (h : p < s.size) : 0 < (s.extract p s.size).size := by rw [ByteArray.size_extract]; omega
theorem name_at {s : ByteArray} {p q : Nat} (hp : p < s.size) (hs : s.size ≤ 6000) (h : Hid (nameL (s.data.toList.drop p) = q)) (w : World) :
    Calls Try.prog 23 #[.string (s.extract p s.size)] w fun e w' => e = .returned (.int .i64 q) ∧ w = w' := by
  have := name_any (s.extract p s.size) (ext_pos hp) (by have := ext_size_le s p s.size; omega) w
  rw [ext_toList, h.out] at this
  exact this
theorem number_at {s : ByteArray} {p q : Nat} (hp : p < s.size) (hs : s.size ≤ 6000) (h : Hid (numL (s.data.toList.drop p) = q)) (w : World) :
    Calls Try.prog 24 #[.string (s.extract p s.size)] w fun e w' => e = .returned (.int .i64 q) ∧ w = w' := by
  have := number_any (s.extract p s.size) (ext_pos hp) (by have := ext_size_le s p s.size; omega) w
  rw [ext_toList, h.out] at this
  exact this
theorem symbol_at {s : ByteArray} {p q : Nat} (hp : p < s.size) (hs : s.size ≤ 6000) (h : Hid (symL (s.data.toList.drop p) = q)) (w : World) :
    Calls Try.prog 25 #[.string (s.extract p s.size)] w fun e w' => e = .returned (.int .i64 q) ∧ w = w' := by
  have := symbol_any (s.extract p s.size) (ext_pos hp) (by have := ext_size_le s p s.size; omega) w
  rw [ext_toList, h.out] at this
  exact this
theorem gap_at {s : ByteArray} {p q : Nat} (hs : s.size ≤ 6000) (h : Hid (gapL (s.data.toList.drop p) = q)) (w : World) :
    Calls Try.prog 18 #[.string (s.extract p s.size)] w fun e w' => e = .returned (.int .i64 q) ∧ w = w' := by
  have := gap_any (s.extract p s.size) (by have := ext_size_le s p s.size; omega) w
  rw [ext_toList, h.out] at this
  exact this

theorem kind0 : ∀ w, (Instr.index 46 kindsV (.int .i64 0)).run Try.prog w = .ok (.agg #[.int .i64 1, .func (.func 23) #[] #[]]) w := fun _ => by kernel_rfl
theorem kind1 : ∀ w, (Instr.index 46 kindsV (.int .i64 1)).run Try.prog w = .ok (.agg #[.int .i64 2, .func (.func 24) #[] #[]]) w := fun _ => by kernel_rfl
theorem kind2 : ∀ w, (Instr.index 46 kindsV (.int .i64 2)).run Try.prog w = .ok (.agg #[.int .i64 3, .func (.func 25) #[] #[]]) w := fun _ => by kernel_rfl

/-- the cells of tokens -/
def tokCells (l : List Tok) : List Value := l.flatMap fun t => [.int .i64 t.kind, .string ⟨t.text.toArray⟩, .int .i64 t.pos]
theorem tokCells_snoc (l : List Tok) (t : Tok) : tokCells (l ++ [t]) = tokCells l ++ [.int .i64 t.kind, .string ⟨t.text.toArray⟩, .int .i64 t.pos] := by simp [tokCells]
theorem tokCells_len (l : List Tok) : (tokCells l).length = l.length * 3 := by
  induction l with
  | nil => rfl
  | cons t r ih => rw [show tokCells (t :: r) = [.int .i64 t.kind, .string ⟨t.text.toArray⟩, .int .i64 t.pos] ++ tokCells r from rfl, List.length_append, ih]; simp; omega

end Go.Proofs.Ytplahgcbeanfnaa
