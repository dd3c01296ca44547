/-
  The contracts of the law's gap and at.
-/
import Derived.Test.YtplahgcbeanfnaaLxL
import Derived.Test.YtplahgcbeanfnaaLxV
namespace Go.Proofs.Ytplahgcbeanfnaa
open Go.RowKit

set_option maxRecDepth 100000 in
set_option maxHeartbeats 1600000 in
theorem lawgap_any (n : Int) (w : World) (h0 : 0 ≤ n) (h1 : n ≤ 255) :
    Calls Try.prog 11 #[.int .u8 n] w fun e w' => e = .returned (.string ⟨(gapTxt (n % 5).toNat).toArray⟩) ∧ Below w.heap.size w w' := by
  have hm : n.tmod 5 = n % 5 := Int.tmod_eq_emod_of_nonneg h0
  have hr : n % 5 = 0 ∨ n % 5 = 1 ∨ n % 5 = 2 ∨ n % 5 = 3 ∨ n % 5 = 4 := by omega
  rcases hr with hr | hr | hr | hr | hr
  all_goals
    rw [hr] at hm ⊢
    clear hr
    go_enter Try.func11, Try.ntmps11
    go_wp2
    go_ret
    exact ⟨rfl, (Below.refl _ _).alloc (Nat.le_refl _) _⟩

/-- a slice value reads, in blocks below B, as a list of bytes -/
def BytesAt (B : Nat) (w : World) (v : Value) (xs : List Int) : Prop :=
  (∃ o c, v = .slice o 0 c ∧ xs = []) ∨ ∃ b off cap, v = .slice (some ⟨b, off, none⟩) xs.length cap ∧ b < B ∧ xs.length ≤ cap ∧ cap ≤ 9223372036854775807 ∧
    ∀ k (h : k < xs.length), w.cell? ⟨b, off + k, none⟩ = some (.int .u8 xs[k]) ∧ 0 ≤ xs[k] ∧ xs[k] ≤ 255
theorem BytesAt.below {B B' : Nat} {w w' : World} {v : Value} {l : List Int} (h : BytesAt B w v l) (hB : Below B' w w') (hb : B ≤ B') : BytesAt B w' v l := by
  rcases h with h | ⟨b, off, cap, hv, h1, h2, h3, h4⟩
  · exact .inl h
  · exact .inr ⟨b, off, cap, hv, h1, h2, h3, fun k hk => ⟨(hB.cell (p := ⟨b, off + k, none⟩) (by show b < _; omega)).trans (h4 k hk).1, (h4 k hk).2⟩⟩

/-- a number that the law takes for a gap -/
def SomeByte (w : World) (e : Ending) (w' : World) : Prop := ∃ z : Int, e = .returned (.int .u8 z) ∧ 0 ≤ z ∧ z ≤ 255 ∧ Below w.heap.size w w'

set_option maxRecDepth 100000 in
set_option maxHeartbeats 1600000 in
theorem lawat_any (B : Nat) (v : Value) (xs : List Int) (i : Nat) (w : World) (hv : BytesAt B w v xs) (hi : i ≤ 1000000) :
    Calls Try.prog 12 #[v, .int .i64 i] w (SomeByte w) := by
  rcases hv with ⟨o, c, rfl, rfl⟩ | ⟨b, off, cap, rfl, hb, hc, hm, hat⟩
  · go_enter Try.func12, Try.ntmps12
    go_wp2
    go_ret
    exact ⟨0, rfl, by decide, by decide, Below.refl _ _⟩
  · by_cases h0 : xs.length = 0
    · have h0' : ((xs.length : Int) == 0) = true := by rw [h0]; rfl
      clear h0
      go_enter Try.func12, Try.ntmps12
      go_wp2
      go_ret
      exact ⟨0, rfl, by decide, by decide, Below.refl _ _⟩
    · have h0' : ((xs.length : Int) == 0) = false := beq_eq_false_iff_ne.2 (by omega)
      have hpos : 0 < xs.length := by omega
      have hk : i % xs.length < xs.length := Nat.mod_lt _ hpos
      have hmod : (i : Int).tmod (xs.length : Int) = ((i % xs.length : Nat) : Int) := by
        rw [Int.tmod_eq_emod_of_nonneg (by omega)]; rfl
      obtain ⟨q0, q1, q2⟩ := hat _ hk
      have hnz : ¬ (xs.length : Int) = 0 := by omega
      obtain ⟨k, hkk⟩ : ∃ k, Hid (i % xs.length = k) := ⟨_, rfl⟩
      generalize xs[i % xs.length] = z at *
      rw [hkk.out] at hmod q0 hk
      have p0 : (0 : Int) ≤ (k : Int) := by omega
      have p1 : (k : Int) < (xs.length : Int) := by omega
      clear h0 hat
      go_enter Try.func12, Try.ntmps12
      go_wp2
      go_ret
      exact ⟨z, rfl, q1, q2, Below.refl _ _⟩

end Go.Proofs.Ytplahgcbeanfnaa
