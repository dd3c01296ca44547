/-
  Slices of numbers and lassos as values; what the contracts of the word packages read and leave.
-/
import Derived.Test.YtcbddplgleeiiaaProg
import Derived.Test.YtcbddplgleeiiaaWordN
import Derived.WalkKit
import Derived.WalkSpells
import Derived.WalkLawsBesides
import Derived.Deep.QuietTactic
import Derived.BigQuiet
import Derived.Below
import Derived.Deep.RegionLaw
import Derived.OwnWalk
namespace Go.Proofs.Ytcbddplgleeiiaa
open Go.RowKit

theorem hidi {p : Prop} (h : p) : Hid p := h
theorem ret_int {a b : Int} (h : a = b) : Ending.returned (.int .i64 a) = .returned (.int .i64 b) := by rw [h]
theorem ret_bool {a b : Bool} (h : a = b) : Ending.returned (.bool a) = .returned (.bool b) := by rw [h]
theorem below_drewN {B : Nat} {a w : World} (h : Below B a w) (n : Nat) : Below B a (w.drewN n) := ⟨h.os, h.tape, h.output, h.size, h.block⟩

/-- a slice value reads, in blocks below B, as a list of ints -/
def IntsAt (B : Nat) (w : World) (v : Value) (xs : List Int) : Prop :=
  (∃ o c, v = .slice o 0 c ∧ xs = []) ∨ ∃ b off cap, v = .slice (some ⟨b, off, none⟩) xs.length cap ∧ b < B ∧ xs.length ≤ cap ∧ cap ≤ 9223372036854775807 ∧
    ∀ k (h : k < xs.length), w.cell? ⟨b, off + k, none⟩ = some (.int .i64 xs[k]) ∧ -9223372036854775808 ≤ xs[k] ∧ xs[k] ≤ 9223372036854775807

theorem IntsAt.below {B B' : Nat} {w w' : World} {v : Value} {xs : List Int} (h : IntsAt B w v xs) (hB : Below B' w w') (hb : B ≤ B') : IntsAt B w' v xs := by
  rcases h with h | ⟨b, off, cap, hv, h1, h2, h3, h4⟩
  · exact .inl h
  · exact .inr ⟨b, off, cap, hv, h1, h2, h3, fun k hk => ⟨(hB.cell (p := ⟨b, off + k, none⟩) (Nat.lt_of_lt_of_le h1 hb)).trans (h4 k hk).1, (h4 k hk).2⟩⟩
theorem IntsAt.mono {B B' : Nat} {w : World} {v : Value} {xs : List Int} (h : IntsAt B w v xs) (hb : B ≤ B') : IntsAt B' w v xs := by
  rcases h with h | ⟨b, off, cap, hv, h1, h2, h3, h4⟩
  · exact .inl h
  · exact .inr ⟨b, off, cap, hv, Nat.lt_of_lt_of_le h1 hb, h2, h3, h4⟩
theorem IntsAt.shape {B : Nat} {w : World} {v : Value} {xs : List Int} (h : IntsAt B w v xs) : ∃ o c, v = .slice o xs.length c := by
  rcases h with ⟨o, c, rfl, rfl⟩ | ⟨b, off, cap, rfl, _⟩
  · exact ⟨_, _, rfl⟩
  · exact ⟨_, _, rfl⟩
theorem IntsAt.at {B : Nat} {w : World} {o : Option Addr} {c : Nat} {xs : List Int} (h : IntsAt B w (.slice o xs.length c) xs) (hx : 0 < xs.length) : ∃ b off, o = some ⟨b, off, none⟩ ∧ b < B ∧ xs.length ≤ c ∧ c ≤ 9223372036854775807 ∧
    ∀ k (h : k < xs.length), w.cell? ⟨b, off + k, none⟩ = some (.int .i64 xs[k]) ∧ -9223372036854775808 ≤ xs[k] ∧ xs[k] ≤ 9223372036854775807 := by
  rcases h with ⟨o', c', _, rfl⟩ | ⟨b, off, cap, hv, h1, h2, h3, h4⟩
  · simp at hx
  · cases hv
    exact ⟨b, off, rfl, h1, h2, h3, h4⟩
theorem IntsAt.len {B : Nat} {w : World} {v : Value} {xs : List Int} (h : IntsAt B w v xs) : xs.length ≤ 9223372036854775807 := by
  rcases h with ⟨o, c, rfl, rfl⟩ | ⟨b, off, cap, rfl, _, h2, h3, _⟩
  · simp
  · omega

/-- a lasso's two slices -/
structure LasAt (B : Nat) (w : World) (v : Value) (s l : List Int) : Prop where
  ex : ∃ u t, v = .agg #[u, t] ∧ IntsAt B w u s ∧ IntsAt B w t l

theorem LasAt.below {B B' : Nat} {w w' : World} {v : Value} {s l : List Int} (h : LasAt B w v s l) (hB : Below B' w w') (hb : B ≤ B') : LasAt B w' v s l := by
  obtain ⟨u, t, e, h1, h2⟩ := h.ex
  exact ⟨u, t, e, h1.below hB hb, h2.below hB hb⟩
theorem LasAt.mono {B B' : Nat} {w : World} {v : Value} {s l : List Int} (h : LasAt B w v s l) (hb : B ≤ B') : LasAt B' w v s l := by
  obtain ⟨u, t, e, h1, h2⟩ := h.ex
  exact ⟨u, t, e, h1.mono hb, h2.mono hb⟩
theorem LasAt.open {B : Nat} {w : World} {v : Value} {s l : List Int} (h : LasAt B w v s l) : ∃ o1 c1 o2 c2, v = .agg #[.slice o1 s.length c1, .slice o2 l.length c2] ∧ IntsAt B w (.slice o1 s.length c1) s ∧ IntsAt B w (.slice o2 l.length c2) l := by
  obtain ⟨u, t, rfl, h1, h2⟩ := h.ex
  obtain ⟨o1, c1, rfl⟩ := h1.shape
  obtain ⟨o2, c2, rfl⟩ := h2.shape
  exact ⟨o1, c1, o2, c2, rfl, h1, h2⟩

/-- the two cells of a lasso that is laid into memory -/
theorem box0 (w : World) (a b : Value) (t : TypeId) : (w.alloc (.cells #[a, b] t)).cell? ⟨w.heap.size, 0, none⟩ = some a := by
  rw [cell_of_row _ _ _ _ _ _ (heap_alloc_new w _)]; rfl
theorem box1 (w : World) (a b : Value) (t : TypeId) : (w.alloc (.cells #[a, b] t)).cell? ⟨w.heap.size, 1, none⟩ = some b := by
  rw [cell_of_row _ _ _ _ _ _ (heap_alloc_new w _)]; rfl
theorem box_lt (w : World) (o : Obj) : w.heap.size < (w.alloc o).heap.size := by simp

/-- is it a letter -/
def letB (n : Int) : Bool := decide (0 ≤ n) && decide (n < 64)

/-- is a lasso formed -/
def formedB (s l : List Int) : Bool := decide (s.length ≤ 60) && decide (1 ≤ l.length) && decide (l.length ≤ 40) && s.all letB && l.all letB

theorem all_drop {p : Int → Bool} {xs : List Int} {k : Nat} (h : k < xs.length) : (xs.drop k).all p = (p xs[k] && (xs.drop (k + 1)).all p) := by
  rw [List.drop_eq_getElem_cons h, List.all_cons]

end Go.Proofs.Ytcbddplgleeiiaa
