/-
  The contract of the law's own function values: it collects the values of a letter.
-/
import Derived.Test.YtbifbaennjglmaaLawR
import Derived.Test.YtbifbaennjglmaaHalves
import Derived.WalkSpells
namespace Go.Proofs.Ytbifbaennjglmaa
open Go.RowKit

def lvals (l : List Sig) (a : Int) (k : Nat) : List Int := (List.range k).map fun (j : Nat) => valueI l a (j : Int)
theorem lvals_succ (l : List Sig) (a : Int) (k : Nat) : (lvals l a (k + 1)).map (Value.int .i64) = (lvals l a k).map (Value.int .i64) ++ [Value.int .i64 (valueI l a k)] := by simp [lvals, List.range_succ]
theorem lvals_length (l : List Sig) (a : Int) (k : Nat) : (lvals l a k).length = k := by simp [lvals]
theorem lvals_eq {l : List Sig} {a : Int} (ha : belowB a (cntI allS l) = true) : lvals l a l.length = valsI l a := by
  apply List.ext_getElem
  · rw [lvals_length, valsI_length]
  · intro k h1 h2
    rw [lvals_length] at h1
    simp only [lvals, List.getElem_map, List.getElem_range]
    exact valueI_eq ha h1

def LawVals (w : World) (l : List Sig) (a : Int) (e : Ending) (w' : World) : Prop :=
  ∃ v, e = .returned v ∧ w'.ownsRow w.heap.size 3 1 v l.length ((lvals l a l.length).map (Value.int .i64)) ∧ Below w.heap.size w w'

set_option maxRecDepth 100000 in
set_option maxHeartbeats 1000000 in
theorem lawvalues_any (v : Value) (l : List Sig) (a : Int) (w : World) (hl : Sigs w.heap.size w v l) (h6 : l.length ≤ 1000000) :
    Calls Try.prog 33 #[v, .int .i64 a] w (LawVals w l a) := by
  have hlen : ∃ o c, v = .slice o l.length c := by
    rcases id hl with ⟨ov, cv, rfl, rfl⟩ | ⟨b, off, cap, rfl, _⟩
    · exact ⟨_, _, rfl⟩
    · exact ⟨_, _, rfl⟩
  obtain ⟨ov, cv, rfl⟩ := hlen
  obtain ⟨i0, hi, hz0, hz1, hz2⟩ := info_parts Try.infoInt
  go_enter Try.func33, Try.ntmps33
  go_wp2
  go_loopw [5, 6] (fun o i wr => ∃ k : Nat, k ≤ l.length ∧ i = .int .i64 k ∧ wr.ownsRow w.heap.size 3 1 o k ((lvals l a k).map (Value.int .i64)) ∧ Below w.heap.size w wr) (fun _ i _ => l.length - (intOf i).toNat)
  case atStart => exact ⟨0, Nat.zero_le _, rfl, World.ownsRow_made w #[] 0 (Nat.le_refl _) (Nat.zero_le _) rfl, (Below.refl _ _).alloc (Nat.le_refl _) _⟩
  case round =>
    obtain ⟨k, hk, rfl, hown, hB⟩ := hrel
    by_cases hlt : k < l.length
    · go_wp2_with fail
      refine (value_any w.heap.size _ l a k _ (hl.below hB (Nat.le_refl _)) hB.size).mono ?_
      rintro e w1 ⟨rfl, hb⟩
      have hown1 := hown.kept (grownBy_of_below hb) (by
        rcases hown.2 with ⟨rfl, _⟩ | ⟨g, cap, cur, rfl, _⟩
        · exact .inl rfl
        · exact .inr (by simp [Value.ownBlock]))
      have hB1 := hB.trans (hb.mono hB.size)
      have hs1 := hB1.size
      clear hb hown hB
      go_wp2_with (at_builtin; refine wpList_append_own _ rfl _ _ 23 rfl w.heap.size 3 i0 (.int .i64 0) 1 8 Try.underlying23 hi hz0 hz1 hz2 rfl (by decide) _ _ _ rfl (hown1.alloc _) ⟨w1.heap.size, 0, none⟩ 1 1 [.int .i64 (valueI l a k)] rfl rfl ?c1 ?c2 ?c3 ?c4 ?c5 ?_)
      case c1 => exact cell_one_new _ _ _
      case c2 => simp [Value.oneCell']
      case c3 => unfold maxLen; omega
      case c4 => omega
      case c5 => simp; omega
      intro v' w2 hown2 hgrow _
      have hlt2 := hown1.lt
      have hB2 : Below w.heap.size w w2 := (hB1.alloc hs1 _).grown hgrow (by simp; omega) (fun k e => (hlt2 k e).1)
      clear hown1 hgrow hlt2 hB1
      go_wp2
      go_roundw
      case rel => exact ⟨k + 1, by omega, by go_num, by rw [lvals_succ]; exact hown2, hB2⟩
      case measure => simp [intOf]; omega
    · go_wp2
      go_ret
      obtain rfl : k = l.length := by omega
      exact ⟨_, rfl, hown, hB⟩

end Go.Proofs.Ytbifbaennjglmaa
