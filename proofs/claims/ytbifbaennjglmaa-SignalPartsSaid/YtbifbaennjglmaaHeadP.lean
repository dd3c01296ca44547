/-
  What the contracts' functions are at the example of the law's head.
-/
import Derived.Test.YtbifbaennjglmaaSigG
namespace Go.Proofs.Ytbifbaennjglmaa
open Go.RowKit

def exL : List Sig := [⟨⟨#[114]⟩, true, 2⟩, ⟨⟨#[109]⟩, false, 3⟩, ⟨⟨#[115]⟩, true, 2⟩]
def exT : List Sig := [⟨⟨#[116, 114, 117, 101]⟩, false, 2⟩]

theorem toList_data (s : ByteArray) : s.toList = s.data.toList := ByteArray.toList_eq s
theorem keyB_data (s : ByteArray) : keyB s.toList = keyB s.data.toList := by rw [toList_data]
theorem nameB_eq (s : ByteArray) : nameB s = (decide (1 ≤ s.data.size) && decide (s.data.size ≤ 12) && !keyB s.data.toList && chsB 0 s.data.toList) := by unfold nameB; rw [toList_data]; rfl
theorem findFrom_cons (nm : ByteArray) (k : Nat) (s : Sig) (r : List Sig) : findFrom nm k (s :: r) = if s.name.data.toList == nm.data.toList then (k : Int) else findFrom nm (k + 1) r := by rw [findFrom, toList_data, toList_data]

theorem ex_n1 : nameB ⟨#[97, 95, 49]⟩ = true := by rw [nameB_eq]; decide +kernel
theorem ex_n2 : nameB ⟨#[65]⟩ = false := by rw [nameB_eq]; decide +kernel
theorem ex_n3 : nameB ⟨#[112, 97, 114, 116]⟩ = false := by rw [nameB_eq]; decide +kernel
theorem ex_n4 : nameB ⟨#[]⟩ = false := by rw [nameB_eq]; decide +kernel
theorem ex_n5 : nameB ⟨#[114]⟩ = true := by rw [nameB_eq]; decide +kernel
theorem ex_n6 : nameB ⟨#[109]⟩ = true := by rw [nameB_eq]; decide +kernel
theorem ex_n7 : nameB ⟨#[115]⟩ = true := by rw [nameB_eq]; decide +kernel
theorem ex_f1 : findI exL ⟨#[115]⟩ = 2 := by unfold findI exL; rw [findFrom_cons, findFrom_cons, findFrom_cons]; decide +kernel
theorem ex_f2 : findI exL ⟨#[113]⟩ = -1 := by unfold findI exL; rw [findFrom_cons, findFrom_cons, findFrom_cons]; decide +kernel
theorem ex_f3 : findI exL ⟨#[114]⟩ = 0 := by unfold findI exL; rw [findFrom_cons]; decide +kernel
theorem ex_f4 : findI exL ⟨#[109]⟩ = 1 := by unfold findI exL; rw [findFrom_cons, findFrom_cons]; decide +kernel
theorem ex_wf : WF exL where
  len1 := by decide
  len6 := by decide
  sized := by intro s hs; simp [exL] at hs; rcases hs with rfl | rfl | rfl <;> simp
  name := by
    intro k h
    match k, h with
    | 0, _ => exact ex_n5
    | 1, _ => exact ex_n6
    | 2, _ => exact ex_n7
  find := by
    intro k h
    match k, h with
    | 0, _ => exact ex_f3
    | 1, _ => exact ex_f4
    | 2, _ => exact ex_f1
  prod := by decide +kernel
theorem ex_v1 : validB exL = true := (valid_iff _).2 ex_wf
theorem ex_v2 : validB [] = false := rfl
theorem ex_v3 : validB exT = false := by
  cases h : validB exT
  · rfl
  · have := ((valid_iff _).1 h).name 0 (by decide)
    rw [show exT[0].name = ⟨#[116, 114, 117, 101]⟩ from rfl, nameB_eq] at this
    revert this
    decide +kernel
theorem ex_c1 : cntI allS exL = 12 := by rw [cntI_valid ex_wf]; decide +kernel
theorem ex_c2 : cntI (inS true) exL = 4 := by rw [cntI_valid ex_wf]; decide +kernel
theorem ex_c3 : cntI (inS false) exL = 3 := by rw [cntI_valid ex_wf]; decide +kernel
theorem ex_m1 : makeOk exL [1, 2, 1] = true := by unfold makeOk; rw [ex_v1]; decide +kernel
theorem ex_m2 : makeI exL [1, 2, 1] = 11 := by unfold makeI; rw [ex_m1]; decide +kernel
theorem ex_m3 : makeOk exL [2, 0, 0] = false := by unfold makeOk; rw [ex_v1]; decide +kernel
theorem ex_m4 : makeI exL [2, 0, 0] = 0 := by unfold makeI; rw [ex_m3]; decide +kernel
theorem ex_p1 : projI (inS true) exL 11 = 3 := by unfold projI; rw [ex_c1]; decide +kernel
theorem ex_p2 : projI (inS false) exL 11 = 2 := by unfold projI; rw [ex_c1]; decide +kernel
theorem ex_j1 : joinI exL 2 1 = 8 := by unfold joinI joinOk; rw [ex_c2, ex_c3]; decide +kernel
theorem ex_w1 : valueI exL 8 2 = 1 := by unfold valueI; rw [ex_c1]; decide +kernel
theorem ex_w2 : valueI exL 12 0 = 0 := by unfold valueI; rw [ex_c1]; decide +kernel

end Go.Proofs.Ytbifbaennjglmaa
