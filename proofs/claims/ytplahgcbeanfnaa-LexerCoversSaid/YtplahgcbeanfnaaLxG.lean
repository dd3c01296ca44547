/-
  The contract of the lexer's scan.
-/
import Derived.Test.YtplahgcbeanfnaaLxH
import Derived.Test.YtplahgcbeanfnaaLxQ
import Derived.Deep.DrawnRows
import Derived.IntWalk
import Derived.OneCell
namespace Go.Proofs.Ytplahgcbeanfnaa
open Go.RowKit
attribute [local go_sem ↓] Go.wp_at_zero Go.wp_at_succ

theorem tokInfo : (Try.prog.info? 28).map (fun i => (i.zero, i.size, i.bytes)) = some (some (.agg #[.int .i64 0, .string ⟨#[]⟩, .int .i64 0]), 3, 32) := by kernel_rfl
theorem tok_shape {w : World} {B : Nat} {u : Value} {l : List Tok} (hown : w.ownsRow B 28 3 u l.length (tokCells l)) : ∃ u0 uc, u = .slice u0 l.length uc := by
  rcases hown.2 with ⟨rfl, h⟩ | ⟨g, cap, cur, rfl, _⟩
  · rw [h]; exact ⟨_, _, rfl⟩
  · exact ⟨_, _, rfl⟩
theorem gen_w {P : Program} {c : Code} {Q : Exit → Act → World → Prop} {a : Act} {X : World} (h : ∀ W, Hid (X = W) → c.wp P Q a W) : c.wp P Q a X := h X rfl
theorem below_drewN {B : Nat} {a w : World} (h : Below B a w) (n : Nat) : Below B a (w.drewN n) := ⟨h.os, h.tape, h.output, h.size, h.block⟩
theorem balloc {w X : World} (h : Below w.heap.size w X) (o : Obj) : Below w.heap.size w (X.alloc o) := h.alloc h.size o
theorem own_below {w w' : World} {B e size n : Nat} {v : Value} {xs : List Value} (h : w.ownsRow B e size v n xs) (hb : Below w.heap.size w w') : w'.ownsRow B e size v n xs :=
  h.kept (row := none) ⟨hb.os, hb.tape, hb.output, hb.size, fun k hk _ => hb.block k hk⟩ (by cases h : v.ownBlock with | none => exact .inl rfl | some k => exact .inr (by simp))
theorem ext_text (s : ByteArray) (p q : Nat) : s.extract p (p + q) = ⟨((s.data.toList.drop p).take q).toArray⟩ := by
  apply ByteArray.ext
  apply Array.ext'
  rw [ByteArray.data_extract, Array.toList_extract, List.extract_eq_take_drop]
  simp
theorem drop_ne (s : ByteArray) (p : Nat) (h : p < s.size) : s.data.toList.drop p ≠ [] := by
  intro e
  have := congrArg List.length e
  rw [List.length_drop] at this
  have hsz : s.data.toList.length = s.size := rfl
  simp at this
  omega
theorem kcell1 (w1 : World) (v x : Value) (n : Nat) : ((w1.alloc (.cells #[x, v] 45)).drewN n).cell? ⟨w1.heap.size, 0, none⟩ = some x :=
  cell_of_row (w1.alloc (.cells #[x, v] 45)) _ 0 _ _ _ (heap_alloc_new w1 _)
theorem kcell2 (w1 : World) (o : Obj) (k : Nat) (v x : Value) (n : Nat) : ((((w1.alloc o).drewN k).alloc (.cells #[x, v] 45)).drewN n).cell? ⟨w1.heap.size + 1, 0, none⟩ = some x := by
  have := kcell1 ((w1.alloc o).drewN k) v x n
  rwa [show ((w1.alloc o).drewN k).heap.size = w1.heap.size + 1 by simp] at this
theorem kcell3 (w1 : World) (o o' : Obj) (k k' : Nat) (v x : Value) (n : Nat) : ((((((w1.alloc o).drewN k).alloc o').drewN k').alloc (.cells #[x, v] 45)).drewN n).cell? ⟨w1.heap.size + 1 + 1, 0, none⟩ = some x := by
  have := kcell2 ((w1.alloc o).drewN k) o' k' v x n
  rwa [show ((w1.alloc o).drewN k).heap.size = w1.heap.size + 1 by simp] at this
/-- one token more -/
theorem scan_next (s : ByteArray) (p q g num : Nat) (done : List Tok) (hlt : p < s.size) (hK : tokK (s.data.toList.drop p) = num) (hN : tokN (s.data.toList.drop p) = q) (hg : gapL (s.data.toList.drop (p + q)) = g) (hpos : 0 < q) (hd : done.length < 2000)
    (hF : lexT s.data.toList = (done ++ (lexF (s.size + 1) p done.length (s.data.toList.drop p)).1, (lexF (s.size + 1) p done.length (s.data.toList.drop p)).2)) :
    lexT s.data.toList = ((done ++ [⟨num, (s.data.toList.drop p).take q, p⟩]) ++ (lexF (s.size + 1) (p + q + g) (done ++ [(⟨num, (s.data.toList.drop p).take q, p⟩ : Tok)]).length (s.data.toList.drop (p + q + g))).1, (lexF (s.size + 1) (p + q + g) (done ++ [(⟨num, (s.data.toList.drop p).take q, p⟩ : Tok)]).length (s.data.toList.drop (p + q + g))).2) := by
  have hsz : s.data.toList.length = s.size := rfl
  have hne := drop_ne s p hlt
  rw [hF, lexF_succ _ _ _ hne (by omega) (by omega), hK, hN, List.drop_drop, hg, List.drop_drop, List.length_append, List.length_singleton,
    lexF_fuel s.size (s.size + 1) _ _ _ (by rw [List.length_drop]; omega) (by rw [List.length_drop]; omega)]
  simp

/-- what scan leaves: tokens of the call's own, or a panic with the first error -/
def ScanPost (s : ByteArray) (w : World) (e : Ending) (w' : World) : Prop :=
  ((lexT s.data.toList).2 = none ∧ (∃ r, e = .returned r ∧ w'.ownsRow w.heap.size 28 3 r (lexT s.data.toList).1.length (tokCells (lexT s.data.toList).1)) ∧ Below w.heap.size w w') ∨
  (∃ k p, (lexT s.data.toList).2 = some (k, p) ∧ e = .panicked [{ v := .iface 39 (.agg #[.int .i64 k, .int .i64 p]), recovered := false }] ∧ Below w.heap.size w w')

set_option maxRecDepth 100000 in
set_option maxHeartbeats 8000000 in
theorem scan_any (s : ByteArray) (h : s.size ≤ 6000) (w : World) :
    Calls Try.prog 16 #[.string s] w (ScanPost s w) := by
  have k0 := kind0
  have k1 := kind1
  have k2 := kind2
  unfold kindsV at k0 k1 k2
  obtain ⟨i0, hi, hz0, hz1, hz2⟩ := info_parts tokInfo
  go_enter Try.func16, Try.ntmps16
  go_wp2_with fail
  go_step3
  go_wp2_with fail
  go_step3
  go_wp2_with (go_at_call 18; refine (gap_any _ (by omega) _).mono ?_; rintro e w' ⟨rfl, rfl⟩)
  go_loopw [3, 4] (fun tk at_ wr => ∃ (p : Nat) (done : List Tok), p ≤ s.size ∧ at_ = .int .i64 p ∧ wr.ownsRow w.heap.size 28 3 tk done.length (tokCells done) ∧ done.length ≤ 2000 ∧ Below w.heap.size w wr ∧
    Hid (lexT s.data.toList = (done ++ (lexF (s.size + 1) p done.length (s.data.toList.drop p)).1, (lexF (s.size + 1) p done.length (s.data.toList.drop p)).2))) (fun _ at_ _ => s.size - (intOf at_).toNat)
  case atStart =>
    have hg := gapL_le s.data.toList
    have hsz : s.data.toList.length = s.size := rfl
    exact ⟨gapL s.data.toList, [], by omega, rfl, ⟨rfl, .inl ⟨rfl, rfl⟩⟩, by simp, Below.refl _ _, by
      unfold Hid
      rw [lexT, hsz]
      rfl⟩
  case round =>
    obtain ⟨p, done, hp, rfl, hown, hd, hB, hF⟩ := hrel
    by_cases hlt : p < s.size
    · have p0 : (0 : Int) ≤ (p : Int) := by omega
      have p1 : (p : Int) ≤ (s.size : Int) := by omega
      have hne := hidi (drop_ne s p hlt)
      obtain ⟨u0, uc, rfl⟩ := tok_shape hown
      have hlb := hown.lt
      obtain ⟨qn, hqn⟩ : ∃ q, Hid (nameL (s.data.toList.drop p) = q) := ⟨_, rfl⟩
      obtain ⟨qd, hqd⟩ : ∃ q, Hid (numL (s.data.toList.drop p) = q) := ⟨_, rfl⟩
      obtain ⟨qs, hqs⟩ : ∃ q, Hid (symL (s.data.toList.drop p) = q) := ⟨_, rfl⟩
      by_cases n0 : qn = 0
      · subst n0
        by_cases d0 : qd = 0
        · subst d0
          by_cases s0 : qs = 0
          · subst s0
            have hT : Hid (tokN (s.data.toList.drop p) = 0) := by unfold Hid tokN; rw [hqn.out, hqd.out, if_neg (fun h => h rfl), if_neg (fun h => h rfl)]; exact hqs.out
            have hE : Hid ((lexT s.data.toList).2 = some (40, p)) := by unfold Hid; rw [hF.out, lexF_bad _ _ _ hne.out hT.out]
            clear hd
            go_wp2_with (go_at_call 19; refine (kinds_any _).mono ?_; rintro e w1 ⟨rfl, hb1⟩; unfold kindsV)
            refine wp_loop_rounds 4 ?_
            rw [rounds_succ]
            go_wp2_with fail
            go_quiet ((first | (go_at_call 23; exact quiet_left (name_at hlt h hqn _)) | (go_at_call 23; exact quiet_add_left (name_at hlt h hqn _))))
            go_wp2_with fail
            rw [rounds_succ]
            go_wp2_with fail
            go_quiet ((first | (go_at_call 24; exact quiet_left (number_at hlt h hqd _)) | (go_at_call 24; exact quiet_add_left (number_at hlt h hqd _))))
            go_wp2_with fail
            rw [rounds_succ]
            go_wp2_with fail
            go_quiet ((first | (go_at_call 25; exact quiet_left (symbol_at hlt h hqs _)) | (go_at_call 25; exact quiet_add_left (symbol_at hlt h hqs _))))
            go_wp2_with fail
            rw [rounds_succ]
            go_wp2_with fail
            exact ⟨rfl, .inr ⟨40, p, hE.out, rfl, below_drewN (balloc (below_drewN (balloc (below_drewN (balloc (hB.trans (hb1.mono hB.size)) _) _) _) _) _) _⟩⟩
          · have hK : Hid (tokK (s.data.toList.drop p) = 3) := by unfold Hid tokK; rw [hqn.out, hqd.out, if_neg (fun h => h rfl), if_neg (fun h => h rfl)]
            have hN : Hid (tokN (s.data.toList.drop p) = qs) := by unfold Hid tokN; rw [hqn.out, hqd.out, if_neg (fun h => h rfl), if_neg (fun h => h rfl)]; exact hqs.out
            have hle : p + qs ≤ s.size := by have := tokN_le (s.data.toList.drop p); rw [hN.out, List.length_drop] at this; have hsz : s.data.toList.length = s.size := rfl; omega
            have hpos : 0 < qs := by omega
            have hb0 : (((qs : Nat) : Int) == 0) = false := by simp; omega
            clear s0
            by_cases hc : done.length = 2000
            · have hc2 : ((done.length : Int) == 2000) = true := by simp; omega
              have hE : Hid ((lexT s.data.toList).2 = some (2, p)) := by unfold Hid; rw [hF.out, hc, lexF_full _ _ hne.out (by rw [hN.out]; omega)]
              clear hd hc
              go_wp2_with (go_at_call 19; refine (kinds_any _).mono ?_; rintro e w1 ⟨rfl, hb1⟩; unfold kindsV)
              refine wp_loop_rounds 4 ?_
              rw [rounds_succ]
              go_wp2_with fail
              go_quiet ((first | (go_at_call 23; exact quiet_left (name_at hlt h hqn _)) | (go_at_call 23; exact quiet_add_left (name_at hlt h hqn _))))
              go_wp2_with fail
              rw [rounds_succ]
              go_wp2_with fail
              go_quiet ((first | (go_at_call 24; exact quiet_left (number_at hlt h hqd _)) | (go_at_call 24; exact quiet_add_left (number_at hlt h hqd _))))
              go_wp2_with fail
              rw [rounds_succ]
              go_wp2_with fail
              go_quiet ((first | (go_at_call 25; exact quiet_left (symbol_at hlt h hqs _)) | (go_at_call 25; exact quiet_add_left (symbol_at hlt h hqs _))))
              go_wp2_with fail
              exact ⟨rfl, .inr ⟨2, p, hE.out, rfl, (below_drewN (balloc (below_drewN (balloc (below_drewN (balloc (hB.trans (hb1.mono hB.size)) _) _) _) _) _) _)⟩⟩
            · have hc2 : ((done.length : Int) == 2000) = false := by simp; omega
              have hd2 : done.length < 2000 := by omega
              obtain ⟨g, hg⟩ : ∃ g, Hid (gapL (s.data.toList.drop (p + qs)) = g) := ⟨_, rfl⟩
              have hgl : p + qs + g ≤ s.size := by have := gapL_le (s.data.toList.drop (p + qs)); rw [hg.out, List.length_drop] at this; have hsz : s.data.toList.length = s.size := rfl; omega
              have hE := hidi (scan_next s p qs g 3 done hlt hK.out hN.out hg.out hpos hd2 hF.out)
              clear hd hc
              go_wp2_with (go_at_call 19; refine (kinds_any _).mono ?_; rintro e w1 ⟨rfl, hb1⟩; unfold kindsV)
              refine wp_loop_rounds 4 ?_
              rw [rounds_succ]
              go_wp2_with fail
              go_quiet ((first | (go_at_call 23; exact quiet_left (name_at hlt h hqn _)) | (go_at_call 23; exact quiet_add_left (name_at hlt h hqn _))))
              go_wp2_with fail
              rw [rounds_succ]
              go_wp2_with fail
              go_quiet ((first | (go_at_call 24; exact quiet_left (number_at hlt h hqd _)) | (go_at_call 24; exact quiet_add_left (number_at hlt h hqd _))))
              go_wp2_with fail
              rw [rounds_succ]
              go_wp2_with fail
              go_quiet ((first | (go_at_call 25; exact quiet_left (symbol_at hlt h hqs _)) | (go_at_call 25; exact quiet_add_left (symbol_at hlt h hqs _))))
              go_wp2_with fail
              refine gen_w ?_
              intro W2 hW2
              have hBr : Below wr.heap.size wr W2 := by rw [← hW2.out]; exact (below_drewN (balloc (below_drewN (balloc (below_drewN (balloc hb1 _) _) _) _) _) _)
              have hB2 := hB.trans (hBr.mono hB.size)
              have hown2 := own_below hown hBr
              have c2 : W2.cell? ⟨w1.heap.size + 1 + 1, 0, none⟩ = some (.int .i64 3) := by rw [← hW2.out]; exact kcell3 _ _ _ _ _ _ _ _
              have hne2 : (Value.slice u0 done.length uc).ownBlock ≠ some (w1.heap.size + 1 + 1) := fun e => by have := (hlb _ e).2; have := hb1.size; omega
              have hs2 : w1.heap.size + 1 + 1 < W2.heap.size := by rw [← hW2.out]; simp
              have x0 : IntKind.i64.wrap ((p : Int) + (qs : Int)) = (p : Int) + (qs : Int) := IntWalk.i64_in _ (by omega)
              have x1 : (p : Int) ≤ (p : Int) + (qs : Int) := by omega
              have x2 : (0 : Int) ≤ (p : Int) + (qs : Int) := by omega
              have x3 : (p : Int) + (qs : Int) ≤ (s.size : Int) := by omega
              have x4 : ((p : Int) + (qs : Int)).toNat = p + qs := by omega
              have hB2s := hB2.size
              clear k0 k1 k2 hB hBr hb1 hown
              go_region_held3 (fun w' => w'.cell? ⟨w1.heap.size + 1 + 1, 0, none⟩ = some (.int .i64 3)) (first | go_keep | (rw [hgrow.cell_far _ (by simp; omega) (Ne.symm hne2)]; assumption))
                ((refine step_append_lies _ (by rfl) _ _ _ (by rfl) w.heap.size 28 i0 _ 3 32 Try.underlying23 hi hz0 hz1 hz2 rfl (by omega) (.slice u0 done.length uc) done.length (tokCells done) (by rfl) ((hown2.alloc _).drew) ⟨W2.heap.size, 0, none⟩ 1 1 [.int .i64 3, .string (s.extract p (p + qs)), .int .i64 p] (by rfl) (by rfl) (World.news_of_block (cs := #[.int .i64 3, .string (s.extract p (p + qs)), .int .i64 p]) (t := 28) (fr := (0, 0)) (heap_alloc_new W2 _)) (by simp [Value.oneCell']) (by omega) (by unfold maxLen; omega) (by omega) (by simp; omega) (W2.heap.size + 1) (by simp) ?_; intro gg cap w3 hown3 hgrow hat hlt3))
              have hB3 : Below w.heap.size w w3 := ((balloc hB2 _).drew).grown hgrow (by simp; omega) (fun k e => (hown2.lt k e).1)
              have hown4 : w3.ownsRow w.heap.size 28 3 (.slice (some ⟨gg, 0, none⟩) (done.length + 1) cap) (done ++ [(⟨3, (s.data.toList.drop p).take qs, p⟩ : Tok)]).length (tokCells (done ++ [(⟨3, (s.data.toList.drop p).take qs, p⟩ : Tok)])) := by
                rw [List.length_append, tokCells_snoc, ← ext_text]
                exact hown3
              clear hown3 hgrow hat hlt3 hown2 hB2 hB2s c2 hne2 hs2
              go_wp2_with (go_at_call 18; refine (gap_at h hg _).mono ?_; rintro e w' ⟨rfl, rfl⟩)
              go_roundw
              case rel => exact ⟨p + qs + g, _, hgl, by go_num, hown4, by rw [List.length_append, List.length_singleton]; omega, hB3, hE⟩
              case measure => simp [intOf]; omega
        · have hK : Hid (tokK (s.data.toList.drop p) = 2) := by unfold Hid tokK; rw [hqn.out, hqd.out, if_neg (fun h => h rfl), if_pos d0]
          have hN : Hid (tokN (s.data.toList.drop p) = qd) := by unfold Hid tokN; rw [hqn.out, hqd.out, if_neg (fun h => h rfl), if_pos d0]
          have hle : p + qd ≤ s.size := by have := tokN_le (s.data.toList.drop p); rw [hN.out, List.length_drop] at this; have hsz : s.data.toList.length = s.size := rfl; omega
          have hpos : 0 < qd := by omega
          have hb0 : (((qd : Nat) : Int) == 0) = false := by simp; omega
          clear d0
          by_cases hc : done.length = 2000
          · have hc2 : ((done.length : Int) == 2000) = true := by simp; omega
            have hE : Hid ((lexT s.data.toList).2 = some (2, p)) := by unfold Hid; rw [hF.out, hc, lexF_full _ _ hne.out (by rw [hN.out]; omega)]
            clear hd hc
            go_wp2_with (go_at_call 19; refine (kinds_any _).mono ?_; rintro e w1 ⟨rfl, hb1⟩; unfold kindsV)
            refine wp_loop_rounds 4 ?_
            rw [rounds_succ]
            go_wp2_with fail
            go_quiet ((first | (go_at_call 23; exact quiet_left (name_at hlt h hqn _)) | (go_at_call 23; exact quiet_add_left (name_at hlt h hqn _))))
            go_wp2_with fail
            rw [rounds_succ]
            go_wp2_with fail
            go_quiet ((first | (go_at_call 24; exact quiet_left (number_at hlt h hqd _)) | (go_at_call 24; exact quiet_add_left (number_at hlt h hqd _))))
            go_wp2_with fail
            exact ⟨rfl, .inr ⟨2, p, hE.out, rfl, (below_drewN (balloc (below_drewN (balloc (hB.trans (hb1.mono hB.size)) _) _) _) _)⟩⟩
          · have hc2 : ((done.length : Int) == 2000) = false := by simp; omega
            have hd2 : done.length < 2000 := by omega
            obtain ⟨g, hg⟩ : ∃ g, Hid (gapL (s.data.toList.drop (p + qd)) = g) := ⟨_, rfl⟩
            have hgl : p + qd + g ≤ s.size := by have := gapL_le (s.data.toList.drop (p + qd)); rw [hg.out, List.length_drop] at this; have hsz : s.data.toList.length = s.size := rfl; omega
            have hE := hidi (scan_next s p qd g 2 done hlt hK.out hN.out hg.out hpos hd2 hF.out)
            clear hd hc
            go_wp2_with (go_at_call 19; refine (kinds_any _).mono ?_; rintro e w1 ⟨rfl, hb1⟩; unfold kindsV)
            refine wp_loop_rounds 4 ?_
            rw [rounds_succ]
            go_wp2_with fail
            go_quiet ((first | (go_at_call 23; exact quiet_left (name_at hlt h hqn _)) | (go_at_call 23; exact quiet_add_left (name_at hlt h hqn _))))
            go_wp2_with fail
            rw [rounds_succ]
            go_wp2_with fail
            go_quiet ((first | (go_at_call 24; exact quiet_left (number_at hlt h hqd _)) | (go_at_call 24; exact quiet_add_left (number_at hlt h hqd _))))
            go_wp2_with fail
            refine gen_w ?_
            intro W2 hW2
            have hBr : Below wr.heap.size wr W2 := by rw [← hW2.out]; exact (below_drewN (balloc (below_drewN (balloc hb1 _) _) _) _)
            have hB2 := hB.trans (hBr.mono hB.size)
            have hown2 := own_below hown hBr
            have c2 : W2.cell? ⟨w1.heap.size + 1, 0, none⟩ = some (.int .i64 2) := by rw [← hW2.out]; exact kcell2 _ _ _ _ _ _
            have hne2 : (Value.slice u0 done.length uc).ownBlock ≠ some (w1.heap.size + 1) := fun e => by have := (hlb _ e).2; have := hb1.size; omega
            have hs2 : w1.heap.size + 1 < W2.heap.size := by rw [← hW2.out]; simp
            have x0 : IntKind.i64.wrap ((p : Int) + (qd : Int)) = (p : Int) + (qd : Int) := IntWalk.i64_in _ (by omega)
            have x1 : (p : Int) ≤ (p : Int) + (qd : Int) := by omega
            have x2 : (0 : Int) ≤ (p : Int) + (qd : Int) := by omega
            have x3 : (p : Int) + (qd : Int) ≤ (s.size : Int) := by omega
            have x4 : ((p : Int) + (qd : Int)).toNat = p + qd := by omega
            have hB2s := hB2.size
            clear k0 k1 k2 hB hBr hb1 hown
            go_region_held3 (fun w' => w'.cell? ⟨w1.heap.size + 1, 0, none⟩ = some (.int .i64 2)) (first | go_keep | (rw [hgrow.cell_far _ (by simp; omega) (Ne.symm hne2)]; assumption))
              ((refine step_append_lies _ (by rfl) _ _ _ (by rfl) w.heap.size 28 i0 _ 3 32 Try.underlying23 hi hz0 hz1 hz2 rfl (by omega) (.slice u0 done.length uc) done.length (tokCells done) (by rfl) ((hown2.alloc _).drew) ⟨W2.heap.size, 0, none⟩ 1 1 [.int .i64 2, .string (s.extract p (p + qd)), .int .i64 p] (by rfl) (by rfl) (World.news_of_block (cs := #[.int .i64 2, .string (s.extract p (p + qd)), .int .i64 p]) (t := 28) (fr := (0, 0)) (heap_alloc_new W2 _)) (by simp [Value.oneCell']) (by omega) (by unfold maxLen; omega) (by omega) (by simp; omega) (W2.heap.size + 1) (by simp) ?_; intro gg cap w3 hown3 hgrow hat hlt3))
            have hB3 : Below w.heap.size w w3 := ((balloc hB2 _).drew).grown hgrow (by simp; omega) (fun k e => (hown2.lt k e).1)
            have hown4 : w3.ownsRow w.heap.size 28 3 (.slice (some ⟨gg, 0, none⟩) (done.length + 1) cap) (done ++ [(⟨2, (s.data.toList.drop p).take qd, p⟩ : Tok)]).length (tokCells (done ++ [(⟨2, (s.data.toList.drop p).take qd, p⟩ : Tok)])) := by
              rw [List.length_append, tokCells_snoc, ← ext_text]
              exact hown3
            clear hown3 hgrow hat hlt3 hown2 hB2 hB2s c2 hne2 hs2
            go_wp2_with (go_at_call 18; refine (gap_at h hg _).mono ?_; rintro e w' ⟨rfl, rfl⟩)
            go_roundw
            case rel => exact ⟨p + qd + g, _, hgl, by go_num, hown4, by rw [List.length_append, List.length_singleton]; omega, hB3, hE⟩
            case measure => simp [intOf]; omega
      · have hK : Hid (tokK (s.data.toList.drop p) = 1) := by unfold Hid tokK; rw [hqn.out, if_pos n0]
        have hN : Hid (tokN (s.data.toList.drop p) = qn) := by unfold Hid tokN; rw [hqn.out, if_pos n0]
        have hle : p + qn ≤ s.size := by have := tokN_le (s.data.toList.drop p); rw [hN.out, List.length_drop] at this; have hsz : s.data.toList.length = s.size := rfl; omega
        have hpos : 0 < qn := by omega
        have hb0 : (((qn : Nat) : Int) == 0) = false := by simp; omega
        clear n0
        by_cases hc : done.length = 2000
        · have hc2 : ((done.length : Int) == 2000) = true := by simp; omega
          have hE : Hid ((lexT s.data.toList).2 = some (2, p)) := by unfold Hid; rw [hF.out, hc, lexF_full _ _ hne.out (by rw [hN.out]; omega)]
          clear hd hc
          go_wp2_with (go_at_call 19; refine (kinds_any _).mono ?_; rintro e w1 ⟨rfl, hb1⟩; unfold kindsV)
          refine wp_loop_rounds 4 ?_
          rw [rounds_succ]
          go_wp2_with fail
          go_quiet ((first | (go_at_call 23; exact quiet_left (name_at hlt h hqn _)) | (go_at_call 23; exact quiet_add_left (name_at hlt h hqn _))))
          go_wp2_with fail
          exact ⟨rfl, .inr ⟨2, p, hE.out, rfl, (below_drewN (balloc (hB.trans (hb1.mono hB.size)) _) _)⟩⟩
        · have hc2 : ((done.length : Int) == 2000) = false := by simp; omega
          have hd2 : done.length < 2000 := by omega
          obtain ⟨g, hg⟩ : ∃ g, Hid (gapL (s.data.toList.drop (p + qn)) = g) := ⟨_, rfl⟩
          have hgl : p + qn + g ≤ s.size := by have := gapL_le (s.data.toList.drop (p + qn)); rw [hg.out, List.length_drop] at this; have hsz : s.data.toList.length = s.size := rfl; omega
          have hE := hidi (scan_next s p qn g 1 done hlt hK.out hN.out hg.out hpos hd2 hF.out)
          clear hd hc
          go_wp2_with (go_at_call 19; refine (kinds_any _).mono ?_; rintro e w1 ⟨rfl, hb1⟩; unfold kindsV)
          refine wp_loop_rounds 4 ?_
          rw [rounds_succ]
          go_wp2_with fail
          go_quiet ((first | (go_at_call 23; exact quiet_left (name_at hlt h hqn _)) | (go_at_call 23; exact quiet_add_left (name_at hlt h hqn _))))
          go_wp2_with fail
          refine gen_w ?_
          intro W2 hW2
          have hBr : Below wr.heap.size wr W2 := by rw [← hW2.out]; exact (below_drewN (balloc hb1 _) _)
          have hB2 := hB.trans (hBr.mono hB.size)
          have hown2 := own_below hown hBr
          have c2 : W2.cell? ⟨w1.heap.size, 0, none⟩ = some (.int .i64 1) := by rw [← hW2.out]; exact kcell1 _ _ _ _
          have hne2 : (Value.slice u0 done.length uc).ownBlock ≠ some (w1.heap.size) := fun e => by have := (hlb _ e).2; have := hb1.size; omega
          have hs2 : w1.heap.size < W2.heap.size := by rw [← hW2.out]; simp
          have x0 : IntKind.i64.wrap ((p : Int) + (qn : Int)) = (p : Int) + (qn : Int) := IntWalk.i64_in _ (by omega)
          have x1 : (p : Int) ≤ (p : Int) + (qn : Int) := by omega
          have x2 : (0 : Int) ≤ (p : Int) + (qn : Int) := by omega
          have x3 : (p : Int) + (qn : Int) ≤ (s.size : Int) := by omega
          have x4 : ((p : Int) + (qn : Int)).toNat = p + qn := by omega
          have hB2s := hB2.size
          clear k0 k1 k2 hB hBr hb1 hown
          go_region_held3 (fun w' => w'.cell? ⟨w1.heap.size, 0, none⟩ = some (.int .i64 1)) (first | go_keep | (rw [hgrow.cell_far _ (by simp; omega) (Ne.symm hne2)]; assumption))
            ((refine step_append_lies _ (by rfl) _ _ _ (by rfl) w.heap.size 28 i0 _ 3 32 Try.underlying23 hi hz0 hz1 hz2 rfl (by omega) (.slice u0 done.length uc) done.length (tokCells done) (by rfl) ((hown2.alloc _).drew) ⟨W2.heap.size, 0, none⟩ 1 1 [.int .i64 1, .string (s.extract p (p + qn)), .int .i64 p] (by rfl) (by rfl) (World.news_of_block (cs := #[.int .i64 1, .string (s.extract p (p + qn)), .int .i64 p]) (t := 28) (fr := (0, 0)) (heap_alloc_new W2 _)) (by simp [Value.oneCell']) (by omega) (by unfold maxLen; omega) (by omega) (by simp; omega) (W2.heap.size + 1) (by simp) ?_; intro gg cap w3 hown3 hgrow hat hlt3))
          have hB3 : Below w.heap.size w w3 := ((balloc hB2 _).drew).grown hgrow (by simp; omega) (fun k e => (hown2.lt k e).1)
          have hown4 : w3.ownsRow w.heap.size 28 3 (.slice (some ⟨gg, 0, none⟩) (done.length + 1) cap) (done ++ [(⟨1, (s.data.toList.drop p).take qn, p⟩ : Tok)]).length (tokCells (done ++ [(⟨1, (s.data.toList.drop p).take qn, p⟩ : Tok)])) := by
            rw [List.length_append, tokCells_snoc, ← ext_text]
            exact hown3
          clear hown3 hgrow hat hlt3 hown2 hB2 hB2s c2 hne2 hs2
          go_wp2_with (go_at_call 18; refine (gap_at h hg _).mono ?_; rintro e w' ⟨rfl, rfl⟩)
          go_roundw
          case rel => exact ⟨p + qn + g, _, hgl, by go_num, hown4, by rw [List.length_append, List.length_singleton]; omega, hB3, hE⟩
          case measure => simp [intOf]; omega
    · have hE : Hid (lexT s.data.toList = (done, none)) := by unfold Hid; rw [hF.out, List.drop_of_length_le (by have hsz : s.data.toList.length = s.size := rfl; omega), lexF_nil]; simp
      go_wp2_with fail
      rw [Exit.noGoto_ret]
      go_ret
      refine .inl ⟨by rw [hE.out], ⟨_, rfl, by rw [hE.out]; exact hown⟩, hB⟩

end Go.Proofs.Ytplahgcbeanfnaa
