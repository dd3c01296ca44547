/-
  Contracts that the formula laws stand on, part Go.
-/
import Derived.Test.YtbnnjbfbifihaaaGreatDoorGk

/-
  The operations of a drawn region of the law's head, one by one: region 8.
-/
namespace Go.Proofs.YtbnnjbfbifihaaaGreatDoor
open Go.RowKit

/-- what the frame of region 8 holds besides its own values -/
structure Fr8 where
  (k1 k2 k3 k5 : Nat)
  (k7 k9 u p18 p19 p20 p21 p22 p23 p24 p25 p26 p27 p28 p29 p30 p31 p32 p33 p34 p35 p36 p37 p38 p39 p40 p41 p42 p43 p44 p45 p46 p47 p48 p49 p50 p51 p52 p53 p54 p55 p56 p57 p58 p59 p60 p61 p62 p63 p64 p65 p66 p67 p68 p69 p70 p71 p72 p73 p74 p75 p76 p77 p78 p79 p80 p81 p82 : Value)
def fr8 (F : Fr8) (x0 x1 x2 x3 x4 x5 x6 x7 x8 : Value) : Act := { tmps := #[.bool false, .pointer (some ⟨F.k1, 0, none⟩), .pointer (some ⟨F.k2, 0, none⟩), .pointer (some ⟨F.k3, 0, none⟩), .int .i64 0, .pointer (some ⟨F.k5, 0, none⟩), .int .i64 0, F.k7, .int .i64 30, F.k9, .int .i64 2, .bool true, x8, F.u, F.u, F.u, F.u, F.u, F.p18, F.p19, F.p20, F.p21, F.p22, F.p23, F.p24, F.p25, F.p26, F.p27, F.p28, F.p29, F.p30, F.p31, F.p32, F.p33, F.p34, F.p35, F.p36, F.p37, F.p38, F.p39, F.p40, F.p41, F.p42, F.p43, F.p44, F.p45, F.p46, F.p47, F.p48, F.p49, F.p50, F.p51, F.p52, F.p53, F.p54, F.p55, F.p56, F.p57, F.p58, F.p59, F.p60, F.p61, F.p62, F.p63, F.p64, F.p65, F.p66, F.p67, F.p68, F.p69, F.p70, F.p71, F.p72, F.p73, F.p74, F.p75, F.p76, F.p77, F.p78, F.p79, F.p80, F.p81, F.p82, x0, x1, x2, x3, x4, x5, x6, x7, F.u, F.u, F.u, F.u, F.u, F.u, F.u, F.u, F.u, F.u, F.u, F.u, F.u, F.u, F.u, F.u, F.u, F.u, F.u, F.u, F.u, F.u, F.u, F.u, F.u, F.u, F.u, F.u, F.u, F.u, F.u, F.u, F.u, F.u, F.u, F.u, F.u, F.u, F.u, F.u, F.u, F.u, F.u, F.u, F.u, F.u, F.u, F.u, F.u, F.u, F.u, F.u, F.u, F.u, F.u, F.u, F.u, F.u, F.u, F.u, F.u, F.u, F.u, F.u, F.u, F.u, F.u, F.u, F.u, F.u, F.u, F.u, F.u, F.u, F.u, F.u, F.u, F.u, F.u, F.u, F.u, F.u, F.u, F.u, F.u, F.u, F.u, F.u, F.u, F.u, F.u, F.u, F.u], defers := [] }

set_option maxRecDepth 100000 in
set_option maxHeartbeats 1000000 in
theorem h8_0 {F : Fr8} {W : World} (Ok : Nat → Prop) (_ : ∀ b, W.heap.size ≤ b → Ok b) (K : Act → World → Prop) (Q : Exit → Act → World → Prop) {x0 x1 x2 x3 x4 x5 x6 x7 x8 _x9 : Value} {n0 : Nat} {o2 : Option Addr} {c2 : Nat} (B2 : Hid (BoxF n0 W F.k2 hB o2 c2)) (hn0 : ∀ b, b < n0 → b < W.heap.size ∧ Ok b) 
    (hK : ∀ v w', (Fs8 0).holds Ok v w' → Below W.heap.size W w' → K (fr8 F v x1 x2 x3 x4 x5 x6 x7 x8) w') :
    wpOp Tryz.prog (opsAt Tryz.f12 8) Q 0 K (fr8 F x0 x1 x2 x3 x4 x5 x6 x7 x8) W := by
  obtain ⟨-, ⟨b0, b1, b2, b3, b4⟩, hf, ha⟩ := B2.out
  rw [Nat.zero_add] at b1 b2 b3 b4
  unfold fr8 opsAt Tryz.f12
  simp only [findRegion, Nat.reduceBEq, if_true, if_false, Bool.false_eq_true, Option.getD_some]
  refine wpOp_of_list' rfl ?_
  go_wp2_with fail
  exact hK _ _ ⟨_, rfl, hf, FArgsP.mono ha hn0⟩ (Below.refl _ _)

set_option maxRecDepth 100000 in
set_option maxHeartbeats 1000000 in
theorem h8_1 {F : Fr8} {W : World} (Ok : Nat → Prop) (_ : ∀ b, W.heap.size ≤ b → Ok b) (K : Act → World → Prop) (Q : Exit → Act → World → Prop) {x0 x1 x2 x3 x4 x5 x6 x7 x8 _x9 : Value} {n0 : Nat} {o1 : Option Addr} {c1 : Nat} (B1 : Hid (BoxF n0 W F.k1 hA o1 c1)) (hn0 : ∀ b, b < n0 → b < W.heap.size ∧ Ok b) 
    (hK : ∀ v w', (Fs8 1).holds Ok v w' → Below W.heap.size W w' → K (fr8 F x0 v x2 x3 x4 x5 x6 x7 x8) w') :
    wpOp Tryz.prog (opsAt Tryz.f12 8) Q 1 K (fr8 F x0 x1 x2 x3 x4 x5 x6 x7 x8) W := by
  obtain ⟨-, ⟨b0, b1, b2, b3, b4⟩, hf, ha⟩ := B1.out
  rw [Nat.zero_add] at b1 b2 b3 b4
  unfold fr8 opsAt Tryz.f12
  simp only [findRegion, Nat.reduceBEq, if_true, if_false, Bool.false_eq_true, Option.getD_some]
  refine wpOp_of_list' rfl ?_
  go_wp2_with fail
  exact hK _ _ ⟨_, rfl, hf, FArgsP.mono ha hn0⟩ (Below.refl _ _)

set_option maxRecDepth 100000 in
set_option maxHeartbeats 1000000 in
theorem h8_2 {F : Fr8} {W : World} (Ok : Nat → Prop) (_ : ∀ b, W.heap.size ≤ b → Ok b) (K : Act → World → Prop) (Q : Exit → Act → World → Prop) {x0 x1 x2 x3 x4 x5 x6 x7 x8 _x9 : Value} {n0 : Nat} {o2 : Option Addr} {c2 : Nat} (B2 : Hid (BoxF n0 W F.k2 hB o2 c2)) (hn0 : ∀ b, b < n0 → b < W.heap.size ∧ Ok b) 
    (hK : ∀ v w', (Fs8 2).holds Ok v w' → Below W.heap.size W w' → K (fr8 F x0 x1 v x3 x4 x5 x6 x7 x8) w') :
    wpOp Tryz.prog (opsAt Tryz.f12 8) Q 2 K (fr8 F x0 x1 x2 x3 x4 x5 x6 x7 x8) W := by
  obtain ⟨-, ⟨b0, b1, b2, b3, b4⟩, hf, ha⟩ := B2.out
  rw [Nat.zero_add] at b1 b2 b3 b4
  unfold fr8 opsAt Tryz.f12
  simp only [findRegion, Nat.reduceBEq, if_true, if_false, Bool.false_eq_true, Option.getD_some]
  refine wpOp_of_list' rfl ?_
  go_wp2_with fail
  exact hK _ _ ⟨_, rfl, hf, FArgsP.mono ha hn0⟩ (Below.refl _ _)

set_option maxRecDepth 100000 in
set_option maxHeartbeats 1000000 in
theorem h8_3 {F : Fr8} {W : World} (Ok : Nat → Prop) (hOk : ∀ b, W.heap.size ≤ b → Ok b) (K : Act → World → Prop) (Q : Exit → Act → World → Prop) {x0 x1 x2 x3 x4 x5 x6 x7 x8 _x9 : Value} (q1 : (Fs8 1).holds Ok x1 W) (q2 : (Fs8 2).holds Ok x2 W)
    (hK : ∀ v w', (Fs8 3).holds Ok v w' → Below W.heap.size W w' → K (fr8 F x0 x1 x2 v x4 x5 x6 x7 x8) w') :
    wpOp Tryz.prog (opsAt Tryz.f12 8) Q 3 K (fr8 F x0 x1 x2 x3 x4 x5 x6 x7 x8) W := by
  replace q1 : FAtP (fun b => b < W.heap.size ∧ Ok b) W x1 hA := q1
  replace q2 : FAtP (fun b => b < W.heap.size ∧ Ok b) W x2 hB := q2
  unfold fr8 opsAt Tryz.f12
  simp only [findRegion, Nat.reduceBEq, if_true, if_false, Bool.false_eq_true, Option.getD_some]
  refine wpOp_of_list' rfl ?_
  go_wp2_with (go_at_call 44; refine (reftwo_any (fun b => b < W.heap.size ∧ Ok b) 5 _ _ _ _ _ q1 q2 (fun b hb => hb.1) (i64_of (by decide) (by decide))).mono ?_; rintro e W2 ⟨r, rfl, hN, hb⟩)
  exact hK _ _ (fm_got hN hb hOk) hb

set_option maxRecDepth 100000 in
set_option maxHeartbeats 1000000 in
theorem h8_4 {F : Fr8} {W : World} (Ok : Nat → Prop) (hOk : ∀ b, W.heap.size ≤ b → Ok b) (K : Act → World → Prop) (Q : Exit → Act → World → Prop) {x0 x1 x2 x3 x4 x5 x6 x7 x8 _x9 : Value} (q0 : (Fs8 0).holds Ok x0 W) (q3 : (Fs8 3).holds Ok x3 W)
    (hK : ∀ v w', (Fs8 4).holds Ok v w' → Below W.heap.size W w' → K (fr8 F x0 x1 x2 x3 v x5 x6 x7 x8) w') :
    wpOp Tryz.prog (opsAt Tryz.f12 8) Q 4 K (fr8 F x0 x1 x2 x3 x4 x5 x6 x7 x8) W := by
  replace q0 : FAtP (fun b => b < W.heap.size ∧ Ok b) W x0 hB := q0
  replace q3 : FAtP (fun b => b < W.heap.size ∧ Ok b) W x3 hAB := q3
  unfold fr8 opsAt Tryz.f12
  simp only [findRegion, Nat.reduceBEq, if_true, if_false, Bool.false_eq_true, Option.getD_some]
  refine wpOp_of_list' rfl ?_
  go_wp2_with (go_at_call 44; refine (reftwo_any (fun b => b < W.heap.size ∧ Ok b) 5 _ _ _ _ _ q0 q3 (fun b hb => hb.1) (i64_of (by decide) (by decide))).mono ?_; rintro e W2 ⟨r, rfl, hN, hb⟩)
  exact hK _ _ (fm_got hN hb hOk) hb

set_option maxRecDepth 100000 in
set_option maxHeartbeats 1000000 in
theorem h8_5 {F : Fr8} {W : World} (Ok : Nat → Prop) (hOk : ∀ b, W.heap.size ≤ b → Ok b) (K : Act → World → Prop) (Q : Exit → Act → World → Prop) {x0 x1 x2 x3 x4 x5 x6 x7 x8 _x9 : Value} 
    (hK : ∀ v w', (Fs8 5).holds Ok v w' → Below W.heap.size W w' → K (fr8 F x0 x1 x2 x3 x4 v x6 x7 x8) w') :
    wpOp Tryz.prog (opsAt Tryz.f12 8) Q 5 K (fr8 F x0 x1 x2 x3 x4 x5 x6 x7 x8) W := by
  unfold fr8 opsAt Tryz.f12
  simp only [findRegion, Nat.reduceBEq, if_true, if_false, Bool.false_eq_true, Option.getD_some]
  refine wpOp_of_list' rfl ?_
  go_wp2_with (go_at_call 45; refine (reftrue_any (fun b => b < W.heap.size ∧ Ok b) _).mono ?_; rintro e W2 ⟨r, rfl, hN, hb⟩)
  exact hK _ _ (fm_got hN hb hOk) hb

set_option maxRecDepth 100000 in
set_option maxHeartbeats 1000000 in
theorem h8_6 {F : Fr8} {W : World} (Ok : Nat → Prop) (hOk : ∀ b, W.heap.size ≤ b → Ok b) (K : Act → World → Prop) (Q : Exit → Act → World → Prop) {x0 x1 x2 x3 x4 x5 x6 x7 x8 _x9 : Value} (q4 : (Fs8 4).holds Ok x4 W) (q5 : (Fs8 5).holds Ok x5 W)
    (hK : ∀ v w', (Fs8 6).holds Ok v w' → Below W.heap.size W w' → K (fr8 F x0 x1 x2 x3 x4 x5 v x7 x8) w') :
    wpOp Tryz.prog (opsAt Tryz.f12 8) Q 6 K (fr8 F x0 x1 x2 x3 x4 x5 x6 x7 x8) W := by
  replace q4 : FAtP (fun b => b < W.heap.size ∧ Ok b) W x4 hBAB := q4
  replace q5 : FAtP (fun b => b < W.heap.size ∧ Ok b) W x5 fTrue := q5
  unfold fr8 opsAt Tryz.f12
  simp only [findRegion, Nat.reduceBEq, if_true, if_false, Bool.false_eq_true, Option.getD_some]
  refine wpOp_of_list' rfl ?_
  go_wp2_with (go_at_call 44; refine (reftwo_any (fun b => b < W.heap.size ∧ Ok b) 5 _ _ _ _ _ q4 q5 (fun b hb => hb.1) (i64_of (by decide) (by decide))).mono ?_; rintro e W2 ⟨r, rfl, hN, hb⟩)
  exact hK _ _ (fm_got hN hb hOk) hb

set_option maxRecDepth 100000 in
set_option maxHeartbeats 1000000 in
theorem h8_7 {F : Fr8} {W : World} (Ok : Nat → Prop) (hOk : ∀ b, W.heap.size ≤ b → Ok b) (hE : Env W) (K : Act → World → Prop) (Q : Exit → Act → World → Prop) {x0 x1 x2 x3 x4 x5 x6 x7 x8 _x9 : Value} (q6 : (Fs8 6).holds Ok x6 W)
    (hK : ∀ v w', (Fs8 7).holds Ok v w' → Below W.heap.size W w' → K (fr8 F x0 x1 x2 x3 x4 x5 x6 v x8) w') :
    wpOp Tryz.prog (opsAt Tryz.f12 8) Q 7 K (fr8 F x0 x1 x2 x3 x4 x5 x6 x7 x8) W := by
  replace q6 : FAtP (fun b => b < W.heap.size ∧ Ok b) W x6 hC0 := q6
  unfold fr8 opsAt Tryz.f12
  simp only [findRegion, Nat.reduceBEq, if_true, if_false, Bool.false_eq_true, Option.getD_some]
  refine wpOp_of_list' rfl ?_
  go_wp2_with (go_at_call 35; refine (canontop_any (fun b => b < W.heap.size ∧ Ok b) _ _ _ hE q6 (fun b hb => hb.1) (by decide +kernel)).mono ?_; rintro e W2 ⟨r, rfl, hN, hb⟩; rw [hd_canon] at hN)
  exact hK _ _ (fm_got hN hb hOk) hb

end Go.Proofs.YtbnnjbfbifihaaaGreatDoor

/-
  The operations of a drawn region of the law's head, one by one: region 9.
-/
namespace Go.Proofs.YtbnnjbfbifihaaaGreatDoor
open Go.RowKit

/-- what the frame of region 9 holds besides its own values -/
structure Fr9 where
  (k1 k2 k3 k5 k12 : Nat)
  (k7 k9 u p18 p19 p20 p21 p22 p23 p24 p25 p26 p27 p28 p29 p30 p31 p32 p33 p34 p35 p36 p37 p38 p39 p40 p41 p42 p43 p44 p45 p46 p47 p48 p49 p50 p51 p52 p53 p54 p55 p56 p57 p58 p59 p60 p61 p62 p63 p64 p65 p66 p67 p68 p69 p70 p71 p72 p73 p74 p75 p76 p77 p78 p79 p80 p81 p82 p83 p84 p85 p86 p87 p88 p89 p90 : Value)
def fr9 (F : Fr9) (x0 x1 x2 x3 x4 x5 : Value) : Act := { tmps := #[.bool false, .pointer (some ⟨F.k1, 0, none⟩), .pointer (some ⟨F.k2, 0, none⟩), .pointer (some ⟨F.k3, 0, none⟩), .int .i64 0, .pointer (some ⟨F.k5, 0, none⟩), .int .i64 0, F.k7, .int .i64 30, F.k9, .int .i64 2, .bool true, .pointer (some ⟨F.k12, 0, none⟩), x5, F.u, F.u, F.u, F.u, F.p18, F.p19, F.p20, F.p21, F.p22, F.p23, F.p24, F.p25, F.p26, F.p27, F.p28, F.p29, F.p30, F.p31, F.p32, F.p33, F.p34, F.p35, F.p36, F.p37, F.p38, F.p39, F.p40, F.p41, F.p42, F.p43, F.p44, F.p45, F.p46, F.p47, F.p48, F.p49, F.p50, F.p51, F.p52, F.p53, F.p54, F.p55, F.p56, F.p57, F.p58, F.p59, F.p60, F.p61, F.p62, F.p63, F.p64, F.p65, F.p66, F.p67, F.p68, F.p69, F.p70, F.p71, F.p72, F.p73, F.p74, F.p75, F.p76, F.p77, F.p78, F.p79, F.p80, F.p81, F.p82, F.p83, F.p84, F.p85, F.p86, F.p87, F.p88, F.p89, F.p90, x0, x1, x2, x3, x4, F.u, F.u, F.u, F.u, F.u, F.u, F.u, F.u, F.u, F.u, F.u, F.u, F.u, F.u, F.u, F.u, F.u, F.u, F.u, F.u, F.u, F.u, F.u, F.u, F.u, F.u, F.u, F.u, F.u, F.u, F.u, F.u, F.u, F.u, F.u, F.u, F.u, F.u, F.u, F.u, F.u, F.u, F.u, F.u, F.u, F.u, F.u, F.u, F.u, F.u, F.u, F.u, F.u, F.u, F.u, F.u, F.u, F.u, F.u, F.u, F.u, F.u, F.u, F.u, F.u, F.u, F.u, F.u, F.u, F.u, F.u, F.u, F.u, F.u, F.u, F.u, F.u, F.u, F.u, F.u, F.u, F.u, F.u, F.u, F.u, F.u, F.u, F.u], defers := [] }

set_option maxRecDepth 100000 in
set_option maxHeartbeats 1000000 in
theorem h9_0 {F : Fr9} {W : World} (Ok : Nat → Prop) (_ : ∀ b, W.heap.size ≤ b → Ok b) (K : Act → World → Prop) (Q : Exit → Act → World → Prop) {x0 x1 x2 x3 x4 x5 _x6 : Value} {n0 : Nat} {o1 : Option Addr} {c1 : Nat} (B1 : Hid (BoxF n0 W F.k1 hA o1 c1)) (hn0 : ∀ b, b < n0 → b < W.heap.size ∧ Ok b) 
    (hK : ∀ v w', (Fs9 0).holds Ok v w' → Below W.heap.size W w' → K (fr9 F v x1 x2 x3 x4 x5) w') :
    wpOp Tryz.prog (opsAt Tryz.f12 9) Q 0 K (fr9 F x0 x1 x2 x3 x4 x5) W := by
  obtain ⟨-, ⟨b0, b1, b2, b3, b4⟩, hf, ha⟩ := B1.out
  rw [Nat.zero_add] at b1 b2 b3 b4
  unfold fr9 opsAt Tryz.f12
  simp only [findRegion, Nat.reduceBEq, if_true, if_false, Bool.false_eq_true, Option.getD_some]
  refine wpOp_of_list' rfl ?_
  go_wp2_with fail
  exact hK _ _ ⟨_, rfl, hf, FArgsP.mono ha hn0⟩ (Below.refl _ _)

set_option maxRecDepth 100000 in
set_option maxHeartbeats 1000000 in
theorem h9_1 {F : Fr9} {W : World} (Ok : Nat → Prop) (_ : ∀ b, W.heap.size ≤ b → Ok b) (K : Act → World → Prop) (Q : Exit → Act → World → Prop) {x0 x1 x2 x3 x4 x5 _x6 : Value} {n0 : Nat} {o1 : Option Addr} {c1 : Nat} (B1 : Hid (BoxF n0 W F.k1 hA o1 c1)) (hn0 : ∀ b, b < n0 → b < W.heap.size ∧ Ok b) 
    (hK : ∀ v w', (Fs9 1).holds Ok v w' → Below W.heap.size W w' → K (fr9 F x0 v x2 x3 x4 x5) w') :
    wpOp Tryz.prog (opsAt Tryz.f12 9) Q 1 K (fr9 F x0 x1 x2 x3 x4 x5) W := by
  obtain ⟨-, ⟨b0, b1, b2, b3, b4⟩, hf, ha⟩ := B1.out
  rw [Nat.zero_add] at b1 b2 b3 b4
  unfold fr9 opsAt Tryz.f12
  simp only [findRegion, Nat.reduceBEq, if_true, if_false, Bool.false_eq_true, Option.getD_some]
  refine wpOp_of_list' rfl ?_
  go_wp2_with fail
  exact hK _ _ ⟨_, rfl, hf, FArgsP.mono ha hn0⟩ (Below.refl _ _)

set_option maxRecDepth 100000 in
set_option maxHeartbeats 1000000 in
theorem h9_2 {F : Fr9} {W : World} (Ok : Nat → Prop) (hOk : ∀ b, W.heap.size ≤ b → Ok b) (K : Act → World → Prop) (Q : Exit → Act → World → Prop) {x0 x1 x2 x3 x4 x5 _x6 : Value} (q1 : (Fs9 1).holds Ok x1 W)
    (hK : ∀ v w', (Fs9 2).holds Ok v w' → Below W.heap.size W w' → K (fr9 F x0 x1 v x3 x4 x5) w') :
    wpOp Tryz.prog (opsAt Tryz.f12 9) Q 2 K (fr9 F x0 x1 x2 x3 x4 x5) W := by
  replace q1 : FAtP (fun b => b < W.heap.size ∧ Ok b) W x1 hA := q1
  unfold fr9 opsAt Tryz.f12
  simp only [findRegion, Nat.reduceBEq, if_true, if_false, Bool.false_eq_true, Option.getD_some]
  refine wpOp_of_list' rfl ?_
  go_wp2_with (go_at_call 42; refine (refone_any (fun b => b < W.heap.size ∧ Ok b) 4 _ _ _ q1 (fun b hb => hb.1) (i64_of (by decide) (by decide))).mono ?_; rintro e W2 ⟨r, rfl, hN, hb⟩)
  exact hK _ _ (fm_got hN hb hOk) hb

set_option maxRecDepth 100000 in
set_option maxHeartbeats 1000000 in
theorem h9_3 {F : Fr9} {W : World} (Ok : Nat → Prop) (hOk : ∀ b, W.heap.size ≤ b → Ok b) (K : Act → World → Prop) (Q : Exit → Act → World → Prop) {x0 x1 x2 x3 x4 x5 _x6 : Value} (q0 : (Fs9 0).holds Ok x0 W) (q2 : (Fs9 2).holds Ok x2 W)
    (hK : ∀ v w', (Fs9 3).holds Ok v w' → Below W.heap.size W w' → K (fr9 F x0 x1 x2 v x4 x5) w') :
    wpOp Tryz.prog (opsAt Tryz.f12 9) Q 3 K (fr9 F x0 x1 x2 x3 x4 x5) W := by
  replace q0 : FAtP (fun b => b < W.heap.size ∧ Ok b) W x0 hA := q0
  obtain ⟨oo0, cc0, rfl, hf0, ha0⟩ := q0.open
  replace q2 : FAtP (fun b => b < W.heap.size ∧ Ok b) W x2 hNA := q2
  obtain ⟨oo2, cc2, rfl, hf2, ha2⟩ := q2.open
  unfold fr9 opsAt Tryz.f12
  simp only [findRegion, Nat.reduceBEq, if_true, if_false, Bool.false_eq_true, Option.getD_some]
  refine wpOp_of_list' rfl ?_
  go_wp2_with fail
  exact hK _ _ (args_two (f := hA) (g := hNA) ⟨by simp, hOk _ (Nat.le_refl _)⟩ (heap_alloc_new W _) hf0 hf2 ((ha0.kept (below_box W _) fun b hb => hb.1).mono fun b hb => ⟨by simp; omega, hb.2⟩) ((ha2.kept (below_box W _) fun b hb => hb.1).mono fun b hb => ⟨by simp; omega, hb.2⟩)) (below_box W _)

set_option maxRecDepth 100000 in
set_option maxHeartbeats 1000000 in
theorem h9_4 {F : Fr9} {W : World} (Ok : Nat → Prop) (hOk : ∀ b, W.heap.size ≤ b → Ok b) (hE : Env W) (K : Act → World → Prop) (Q : Exit → Act → World → Prop) {x0 x1 x2 x3 x4 x5 _x6 : Value} (q3 : (Fs9 3).holds Ok x3 W)
    (hK : ∀ v w', (Fs9 4).holds Ok v w' → Below W.heap.size W w' → K (fr9 F x0 x1 x2 x3 v x5) w') :
    wpOp Tryz.prog (opsAt Tryz.f12 9) Q 4 K (fr9 F x0 x1 x2 x3 x4 x5) W := by
  replace q3 : FArgsP (fun b => b < W.heap.size ∧ Ok b) W x3 [hA, hNA] := q3
  unfold fr9 opsAt Tryz.f12
  simp only [findRegion, Nat.reduceBEq, if_true, if_false, Bool.false_eq_true, Option.getD_some]
  refine wpOp_of_list' rfl ?_
  go_wp2_with (go_at_call 39; refine (or_any (fun b => b < W.heap.size ∧ Ok b) _ _ _ hE q3 (fun b hb => hb.1) (by decide +kernel)).mono ?_; rintro e W2 ⟨r, rfl, hN, hb⟩; rw [hd_or] at hN)
  exact hK _ _ (fm_got hN hb hOk) hb

end Go.Proofs.YtbnnjbfbifihaaaGreatDoor

/-
  The operations of a drawn region of the law's head, one by one: region 12.
-/
namespace Go.Proofs.YtbnnjbfbifihaaaGreatDoor
open Go.RowKit

/-- what the frame of region 12 holds besides its own values -/
structure Fr12 where
  (k1 k2 k3 k5 k12 k13 k14 : Nat)
  (k7 k9 u p18 p19 p20 p21 p22 p23 p24 p25 p26 p27 p28 p29 p30 p31 p32 p33 p34 p35 p36 p37 p38 p39 p40 p41 p42 p43 p44 p45 p46 p47 p48 p49 p50 p51 p52 p53 p54 p55 p56 p57 p58 p59 p60 p61 p62 p63 p64 p65 p66 p67 p68 p69 p70 p71 p72 p73 p74 p75 p76 p77 p78 p79 p80 p81 p82 p83 p84 p85 p86 p87 p88 p89 p90 p91 p92 p93 p94 p95 p96 p97 p98 p99 p100 p101 p102 p103 p104 p105 p106 p107 p108 p109 p110 p111 p112 p113 p114 p115 p116 p117 p118 p119 p120 p121 p122 p123 p124 p125 p126 p127 p128 p129 : Value)
def fr12 (F : Fr12) (x0 x1 x2 x3 x4 x5 : Value) : Act := { tmps := #[.bool false, .pointer (some ⟨F.k1, 0, none⟩), .pointer (some ⟨F.k2, 0, none⟩), .pointer (some ⟨F.k3, 0, none⟩), .int .i64 0, .pointer (some ⟨F.k5, 0, none⟩), .int .i64 0, F.k7, .int .i64 30, F.k9, .int .i64 2, .bool true, .pointer (some ⟨F.k12, 0, none⟩), .pointer (some ⟨F.k13, 0, none⟩), .pointer (some ⟨F.k14, 0, none⟩), .bool true, x5, F.u, F.p18, F.p19, F.p20, F.p21, F.p22, F.p23, F.p24, F.p25, F.p26, F.p27, F.p28, F.p29, F.p30, F.p31, F.p32, F.p33, F.p34, F.p35, F.p36, F.p37, F.p38, F.p39, F.p40, F.p41, F.p42, F.p43, F.p44, F.p45, F.p46, F.p47, F.p48, F.p49, F.p50, F.p51, F.p52, F.p53, F.p54, F.p55, F.p56, F.p57, F.p58, F.p59, F.p60, F.p61, F.p62, F.p63, F.p64, F.p65, F.p66, F.p67, F.p68, F.p69, F.p70, F.p71, F.p72, F.p73, F.p74, F.p75, F.p76, F.p77, F.p78, F.p79, F.p80, F.p81, F.p82, F.p83, F.p84, F.p85, F.p86, F.p87, F.p88, F.p89, F.p90, F.p91, F.p92, F.p93, F.p94, F.p95, F.p96, F.p97, F.p98, F.p99, F.p100, F.p101, F.p102, F.p103, F.p104, F.p105, F.p106, F.p107, F.p108, F.p109, F.p110, F.p111, F.p112, F.p113, F.p114, F.p115, F.p116, F.p117, F.p118, F.p119, F.p120, F.p121, F.p122, F.p123, F.p124, F.p125, F.p126, F.p127, F.p128, F.p129, x0, x1, x2, x3, x4, F.u, F.u, F.u, F.u, F.u, F.u, F.u, F.u, F.u, F.u, F.u, F.u, F.u, F.u, F.u, F.u, F.u, F.u, F.u, F.u, F.u, F.u, F.u, F.u, F.u, F.u, F.u, F.u, F.u, F.u, F.u, F.u, F.u, F.u, F.u, F.u, F.u, F.u, F.u, F.u, F.u, F.u, F.u, F.u, F.u, F.u, F.u, F.u, F.u], defers := [] }

set_option maxRecDepth 100000 in
set_option maxHeartbeats 1000000 in
theorem h12_0 {F : Fr12} {W : World} (Ok : Nat → Prop) (_ : ∀ b, W.heap.size ≤ b → Ok b) (K : Act → World → Prop) (Q : Exit → Act → World → Prop) {x0 x1 x2 x3 x4 x5 _x6 : Value} {n0 : Nat} {o1 : Option Addr} {c1 : Nat} (B1 : Hid (BoxF n0 W F.k1 hA o1 c1)) (hn0 : ∀ b, b < n0 → b < W.heap.size ∧ Ok b) 
    (hK : ∀ v w', (Fs12 0).holds Ok v w' → Below W.heap.size W w' → K (fr12 F v x1 x2 x3 x4 x5) w') :
    wpOp Tryz.prog (opsAt Tryz.f12 12) Q 0 K (fr12 F x0 x1 x2 x3 x4 x5) W := by
  obtain ⟨-, ⟨b0, b1, b2, b3, b4⟩, hf, ha⟩ := B1.out
  rw [Nat.zero_add] at b1 b2 b3 b4
  unfold fr12 opsAt Tryz.f12
  simp only [findRegion, Nat.reduceBEq, if_true, if_false, Bool.false_eq_true, Option.getD_some]
  refine wpOp_of_list' rfl ?_
  go_wp2_with fail
  exact hK _ _ ⟨_, rfl, hf, FArgsP.mono ha hn0⟩ (Below.refl _ _)

set_option maxRecDepth 100000 in
set_option maxHeartbeats 1000000 in
theorem h12_1 {F : Fr12} {W : World} (Ok : Nat → Prop) (_ : ∀ b, W.heap.size ≤ b → Ok b) (K : Act → World → Prop) (Q : Exit → Act → World → Prop) {x0 x1 x2 x3 x4 x5 _x6 : Value} {n0 : Nat} {o2 : Option Addr} {c2 : Nat} (B2 : Hid (BoxF n0 W F.k2 hB o2 c2)) (hn0 : ∀ b, b < n0 → b < W.heap.size ∧ Ok b) 
    (hK : ∀ v w', (Fs12 1).holds Ok v w' → Below W.heap.size W w' → K (fr12 F x0 v x2 x3 x4 x5) w') :
    wpOp Tryz.prog (opsAt Tryz.f12 12) Q 1 K (fr12 F x0 x1 x2 x3 x4 x5) W := by
  obtain ⟨-, ⟨b0, b1, b2, b3, b4⟩, hf, ha⟩ := B2.out
  rw [Nat.zero_add] at b1 b2 b3 b4
  unfold fr12 opsAt Tryz.f12
  simp only [findRegion, Nat.reduceBEq, if_true, if_false, Bool.false_eq_true, Option.getD_some]
  refine wpOp_of_list' rfl ?_
  go_wp2_with fail
  exact hK _ _ ⟨_, rfl, hf, FArgsP.mono ha hn0⟩ (Below.refl _ _)

set_option maxRecDepth 100000 in
set_option maxHeartbeats 1000000 in
theorem h12_2 {F : Fr12} {W : World} (Ok : Nat → Prop) (hOk : ∀ b, W.heap.size ≤ b → Ok b) (K : Act → World → Prop) (Q : Exit → Act → World → Prop) {x0 x1 x2 x3 x4 x5 _x6 : Value} (q1 : (Fs12 1).holds Ok x1 W)
    (hK : ∀ v w', (Fs12 2).holds Ok v w' → Below W.heap.size W w' → K (fr12 F x0 x1 v x3 x4 x5) w') :
    wpOp Tryz.prog (opsAt Tryz.f12 12) Q 2 K (fr12 F x0 x1 x2 x3 x4 x5) W := by
  replace q1 : FAtP (fun b => b < W.heap.size ∧ Ok b) W x1 hB := q1
  unfold fr12 opsAt Tryz.f12
  simp only [findRegion, Nat.reduceBEq, if_true, if_false, Bool.false_eq_true, Option.getD_some]
  refine wpOp_of_list' rfl ?_
  go_wp2_with (go_at_call 42; refine (refone_any (fun b => b < W.heap.size ∧ Ok b) 8 _ _ _ q1 (fun b hb => hb.1) (i64_of (by decide) (by decide))).mono ?_; rintro e W2 ⟨r, rfl, hN, hb⟩)
  exact hK _ _ (fm_got hN hb hOk) hb

set_option maxRecDepth 100000 in
set_option maxHeartbeats 1000000 in
theorem h12_3 {F : Fr12} {W : World} (Ok : Nat → Prop) (hOk : ∀ b, W.heap.size ≤ b → Ok b) (K : Act → World → Prop) (Q : Exit → Act → World → Prop) {x0 x1 x2 x3 x4 x5 _x6 : Value} (q0 : (Fs12 0).holds Ok x0 W) (q2 : (Fs12 2).holds Ok x2 W)
    (hK : ∀ v w', (Fs12 3).holds Ok v w' → Below W.heap.size W w' → K (fr12 F x0 x1 x2 v x4 x5) w') :
    wpOp Tryz.prog (opsAt Tryz.f12 12) Q 3 K (fr12 F x0 x1 x2 x3 x4 x5) W := by
  replace q0 : FAtP (fun b => b < W.heap.size ∧ Ok b) W x0 hA := q0
  obtain ⟨oo0, cc0, rfl, hf0, ha0⟩ := q0.open
  replace q2 : FAtP (fun b => b < W.heap.size ∧ Ok b) W x2 hXB := q2
  obtain ⟨oo2, cc2, rfl, hf2, ha2⟩ := q2.open
  unfold fr12 opsAt Tryz.f12
  simp only [findRegion, Nat.reduceBEq, if_true, if_false, Bool.false_eq_true, Option.getD_some]
  refine wpOp_of_list' rfl ?_
  go_wp2_with fail
  exact hK _ _ (args_two (f := hA) (g := hXB) ⟨by simp, hOk _ (Nat.le_refl _)⟩ (heap_alloc_new W _) hf0 hf2 ((ha0.kept (below_box W _) fun b hb => hb.1).mono fun b hb => ⟨by simp; omega, hb.2⟩) ((ha2.kept (below_box W _) fun b hb => hb.1).mono fun b hb => ⟨by simp; omega, hb.2⟩)) (below_box W _)

set_option maxRecDepth 100000 in
set_option maxHeartbeats 1000000 in
theorem h12_4 {F : Fr12} {W : World} (Ok : Nat → Prop) (hOk : ∀ b, W.heap.size ≤ b → Ok b) (K : Act → World → Prop) (Q : Exit → Act → World → Prop) {x0 x1 x2 x3 x4 x5 _x6 : Value} (q3 : (Fs12 3).holds Ok x3 W)
    (hK : ∀ v w', (Fs12 4).holds Ok v w' → Below W.heap.size W w' → K (fr12 F x0 x1 x2 x3 v x5) w') :
    wpOp Tryz.prog (opsAt Tryz.f12 12) Q 4 K (fr12 F x0 x1 x2 x3 x4 x5) W := by
  replace q3 : FArgsP (fun b => b < W.heap.size ∧ Ok b) W x3 [hA, hXB] := q3
  unfold fr12 opsAt Tryz.f12
  simp only [findRegion, Nat.reduceBEq, if_true, if_false, Bool.false_eq_true, Option.getD_some]
  refine wpOp_of_list' rfl ?_
  go_wp2_with (go_at_call 46; refine (reflate_any (fun b => b < W.heap.size ∧ Ok b) 16 0 _ _ _ q3 (fun b hb => hb.1) (i64_of (by decide) (by decide)) (i64_of (by decide) (by decide))).mono ?_; rintro e W2 ⟨r, rfl, hN, hb⟩)
  exact hK _ _ (fm_got hN hb hOk) hb

end Go.Proofs.YtbnnjbfbifihaaaGreatDoor

/-
  The drawn regions of the law's head: 8, 9, 12.
-/
namespace Go.Proofs.YtbnnjbfbifihaaaGreatDoor
open Go.RowKit

set_option maxRecDepth 100000 in
set_option maxHeartbeats 4000000 in
theorem head_r8 {k1 k2 k3 k5 : Nat} {k7 k9 p18 p19 p20 p21 p22 p23 p24 p25 p26 p27 p28 p29 p30 p31 p32 p33 p34 p35 p36 p37 p38 p39 p40 p41 p42 p43 p44 p45 p46 p47 p48 p49 p50 p51 p52 p53 p54 p55 p56 p57 p58 p59 p60 p61 p62 p63 p64 p65 p66 p67 p68 p69 p70 p71 p72 p73 p74 p75 p76 p77 p78 p79 p80 p81 p82 : Value} (W0 : World) (Q : Exit → Act → World → Prop) {o1 o2 o3 o5 : Option Addr} {c1 c2 c3 c5 : Nat} (B1 : Hid (BoxF W0.heap.size W0 k1 hA o1 c1)) (B2 : Hid (BoxF W0.heap.size W0 k2 hB o2 c2)) (_ : Hid (BoxF W0.heap.size W0 k3 hX o3 c3)) (_ : Hid (BoxF W0.heap.size W0 k5 hY o5 c5)) (hE : Env W0)
    (hend : ∀ (x : Nat → Value) (W : World) (k : Nat) (o : Option Addr) (c : Nat), x 8 = .pointer (some ⟨k, 0, none⟩) → Below W0.heap.size W0 W → BoxF W.heap.size W k hAB o c → Q .normal { tmps := #[.bool false, .pointer (some ⟨k1, 0, none⟩), .pointer (some ⟨k2, 0, none⟩), .pointer (some ⟨k3, 0, none⟩), .int .i64 0, .pointer (some ⟨k5, 0, none⟩), .int .i64 0, k7, .int .i64 30, k9, .int .i64 2, .bool true, x 8, undef, undef, undef, undef, undef, p18, p19, p20, p21, p22, p23, p24, p25, p26, p27, p28, p29, p30, p31, p32, p33, p34, p35, p36, p37, p38, p39, p40, p41, p42, p43, p44, p45, p46, p47, p48, p49, p50, p51, p52, p53, p54, p55, p56, p57, p58, p59, p60, p61, p62, p63, p64, p65, p66, p67, p68, p69, p70, p71, p72, p73, p74, p75, p76, p77, p78, p79, p80, p81, p82, x 0, x 1, x 2, x 3, x 4, x 5, x 6, x 7, undef, undef, undef, undef, undef, undef, undef, undef, undef, undef, undef, undef, undef, undef, undef, undef, undef, undef, undef, undef, undef, undef, undef, undef, undef, undef, undef, undef, undef, undef, undef, undef, undef, undef, undef, undef, undef, undef, undef, undef, undef, undef, undef, undef, undef, undef, undef, undef, undef, undef, undef, undef, undef, undef, undef, undef, undef, undef, undef, undef, undef, undef, undef, undef, undef, undef, undef, undef, undef, undef, undef, undef, undef, undef, undef, undef, undef, undef, undef, undef, undef, undef, undef, undef, undef, undef, undef, undef, undef, undef, undef, undef, undef], defers := [] } W) :
    (Code.region 8 (opsAt Tryz.f12 8) true).wp Tryz.prog Q { tmps := #[.bool false, .pointer (some ⟨k1, 0, none⟩), .pointer (some ⟨k2, 0, none⟩), .pointer (some ⟨k3, 0, none⟩), .int .i64 0, .pointer (some ⟨k5, 0, none⟩), .int .i64 0, k7, .int .i64 30, k9, .int .i64 2, .bool true, undef, undef, undef, undef, undef, undef, p18, p19, p20, p21, p22, p23, p24, p25, p26, p27, p28, p29, p30, p31, p32, p33, p34, p35, p36, p37, p38, p39, p40, p41, p42, p43, p44, p45, p46, p47, p48, p49, p50, p51, p52, p53, p54, p55, p56, p57, p58, p59, p60, p61, p62, p63, p64, p65, p66, p67, p68, p69, p70, p71, p72, p73, p74, p75, p76, p77, p78, p79, p80, p81, p82, undef, undef, undef, undef, undef, undef, undef, undef, undef, undef, undef, undef, undef, undef, undef, undef, undef, undef, undef, undef, undef, undef, undef, undef, undef, undef, undef, undef, undef, undef, undef, undef, undef, undef, undef, undef, undef, undef, undef, undef, undef, undef, undef, undef, undef, undef, undef, undef, undef, undef, undef, undef, undef, undef, undef, undef, undef, undef, undef, undef, undef, undef, undef, undef, undef, undef, undef, undef, undef, undef, undef, undef, undef, undef, undef, undef, undef, undef, undef, undef, undef, undef, undef, undef, undef, undef, undef, undef, undef, undef, undef, undef, undef, undef, undef, undef, undef, undef, undef, undef, undef], defers := [] } W0 := by
  have hsz : (opsAt Tryz.f12 8).size = 10 := by kernel_rfl
  refine wp_region_box (by kernel_rfl) (by kernel_rfl) Fs8 (fun x => fr8 ⟨k1, k2, k3, k5, k7, k9, undef, p18, p19, p20, p21, p22, p23, p24, p25, p26, p27, p28, p29, p30, p31, p32, p33, p34, p35, p36, p37, p38, p39, p40, p41, p42, p43, p44, p45, p46, p47, p48, p49, p50, p51, p52, p53, p54, p55, p56, p57, p58, p59, p60, p61, p62, p63, p64, p65, p66, p67, p68, p69, p70, p71, p72, p73, p74, p75, p76, p77, p78, p79, p80, p81, p82⟩ (x 0) (x 1) (x 2) (x 3) (x 4) (x 5) (x 6) (x 7) (x 8)) (fun _ => undef) 8 9 7 hAB (by kernel_rfl) (by decide) (by decide) (by decide) (by rw [hsz]; decide) (by rw [hsz]; decide) (by rw [hsz]; decide) rfl ?_ ?_ ?_ ?_
  · intro Ok i x W K hi hia his hO1 hO2 hS hd hK
    match i, hi, hd, hK with
    | 0, _, hd, hK => exact h8_0 (_x9 := undef) Ok hO1 K Q (hidi (B2.out.next (Nat.le_refl _) hS)) (fun b hb => ⟨Nat.lt_of_lt_of_le hb hS.size, hO2 b hb⟩) (fun v w' h hB => hK v w' h hB)
    | 1, _, hd, hK => exact h8_1 (_x9 := undef) Ok hO1 K Q (hidi (B1.out.next (Nat.le_refl _) hS)) (fun b hb => ⟨Nat.lt_of_lt_of_le hb hS.size, hO2 b hb⟩) (fun v w' h hB => hK v w' h hB)
    | 2, _, hd, hK => exact h8_2 (_x9 := undef) Ok hO1 K Q (hidi (B2.out.next (Nat.le_refl _) hS)) (fun b hb => ⟨Nat.lt_of_lt_of_le hb hS.size, hO2 b hb⟩) (fun v w' h hB => hK v w' h hB)
    | 3, _, hd, hK => exact h8_3 (_x9 := undef) Ok hO1 K Q (hd 1 (by decide) (by decide) (by kernel_rfl)) (hd 2 (by decide) (by decide) (by kernel_rfl)) (fun v w' h hB => hK v w' h hB)
    | 4, _, hd, hK => exact h8_4 (_x9 := undef) Ok hO1 K Q (hd 0 (by decide) (by decide) (by kernel_rfl)) (hd 3 (by decide) (by decide) (by kernel_rfl)) (fun v w' h hB => hK v w' h hB)
    | 5, _, hd, hK => exact h8_5 (_x9 := undef) Ok hO1 K Q (fun v w' h hB => hK v w' h hB)
    | 6, _, hd, hK => exact h8_6 (_x9 := undef) Ok hO1 K Q (hd 4 (by decide) (by decide) (by kernel_rfl)) (hd 5 (by decide) (by decide) (by kernel_rfl)) (fun v w' h hB => hK v w' h hB)
    | 7, _, hd, hK => exact h8_7 (_x9 := undef) Ok hO1 (hE.below hS) K Q (hd 6 (by decide) (by decide) (by kernel_rfl)) (fun v w' h hB => hK v w' h hB)
    | 8, _, hd, hK => exact absurd rfl hia
    | 9, _, hd, hK => exact absurd rfl his
    | n + 10, hi, _, _ => exact absurd hi (by have h : (opsAt Tryz.f12 8).size = 10 := (by kernel_rfl); omega)
  · intro x W K hK
    unfold opsAt Tryz.f12
    simp only [findRegion, Nat.reduceBEq, if_true, if_false, Bool.false_eq_true, Option.getD_some]
    refine wpOp_of_list' rfl ?_
    go_wp2_with fail
    exact hK
  · intro x W K k o c hk hres hxs hK
    obtain ⟨-, -, -, -, -, -, m0, m1, m2, m3, m4⟩ := hres.cells
    obtain ⟨j1, j2, j3, j4, j5, ⟨i0, i1, i2, i3, i4⟩, -⟩ := hres.cells
    have hKK : Hid (K (fr8 _ (x 0) (x 1) (x 2) (x 3) (x 4) (x 5) (x 6) (x 7) (x 8)) _) := hK
    clear hK hres
    rw [hk, hxs] at hKK ⊢
    unfold fr8 opsAt Tryz.f12
    simp only [findRegion, Nat.reduceBEq, if_true, if_false, Bool.false_eq_true, Option.getD_some]
    refine wpOp_of_list' rfl ?_
    go_wp2_with fail
    exact hKK.out
  · intro x W k o c hk hS hkl h5 hf ha
    exact hend x W k o c hk hS ⟨hkl, h5, hf, ha⟩

set_option maxRecDepth 100000 in
set_option maxHeartbeats 4000000 in
theorem head_r9 {k1 k2 k3 k5 k12 : Nat} {k7 k9 p18 p19 p20 p21 p22 p23 p24 p25 p26 p27 p28 p29 p30 p31 p32 p33 p34 p35 p36 p37 p38 p39 p40 p41 p42 p43 p44 p45 p46 p47 p48 p49 p50 p51 p52 p53 p54 p55 p56 p57 p58 p59 p60 p61 p62 p63 p64 p65 p66 p67 p68 p69 p70 p71 p72 p73 p74 p75 p76 p77 p78 p79 p80 p81 p82 p83 p84 p85 p86 p87 p88 p89 p90 : Value} (W0 : World) (Q : Exit → Act → World → Prop) {o1 o2 o3 o5 o12 : Option Addr} {c1 c2 c3 c5 c12 : Nat} (B1 : Hid (BoxF W0.heap.size W0 k1 hA o1 c1)) (_ : Hid (BoxF W0.heap.size W0 k2 hB o2 c2)) (_ : Hid (BoxF W0.heap.size W0 k3 hX o3 c3)) (_ : Hid (BoxF W0.heap.size W0 k5 hY o5 c5)) (_ : Hid (BoxF W0.heap.size W0 k12 hAB o12 c12)) (hE : Env W0)
    (hend : ∀ (x : Nat → Value) (W : World) (k : Nat) (o : Option Addr) (c : Nat), x 5 = .pointer (some ⟨k, 0, none⟩) → Below W0.heap.size W0 W → BoxF W.heap.size W k fTrue o c → Q .normal { tmps := #[.bool false, .pointer (some ⟨k1, 0, none⟩), .pointer (some ⟨k2, 0, none⟩), .pointer (some ⟨k3, 0, none⟩), .int .i64 0, .pointer (some ⟨k5, 0, none⟩), .int .i64 0, k7, .int .i64 30, k9, .int .i64 2, .bool true, .pointer (some ⟨k12, 0, none⟩), x 5, undef, undef, undef, undef, p18, p19, p20, p21, p22, p23, p24, p25, p26, p27, p28, p29, p30, p31, p32, p33, p34, p35, p36, p37, p38, p39, p40, p41, p42, p43, p44, p45, p46, p47, p48, p49, p50, p51, p52, p53, p54, p55, p56, p57, p58, p59, p60, p61, p62, p63, p64, p65, p66, p67, p68, p69, p70, p71, p72, p73, p74, p75, p76, p77, p78, p79, p80, p81, p82, p83, p84, p85, p86, p87, p88, p89, p90, x 0, x 1, x 2, x 3, x 4, undef, undef, undef, undef, undef, undef, undef, undef, undef, undef, undef, undef, undef, undef, undef, undef, undef, undef, undef, undef, undef, undef, undef, undef, undef, undef, undef, undef, undef, undef, undef, undef, undef, undef, undef, undef, undef, undef, undef, undef, undef, undef, undef, undef, undef, undef, undef, undef, undef, undef, undef, undef, undef, undef, undef, undef, undef, undef, undef, undef, undef, undef, undef, undef, undef, undef, undef, undef, undef, undef, undef, undef, undef, undef, undef, undef, undef, undef, undef, undef, undef, undef, undef, undef, undef, undef, undef, undef], defers := [] } W) :
    (Code.region 9 (opsAt Tryz.f12 9) true).wp Tryz.prog Q { tmps := #[.bool false, .pointer (some ⟨k1, 0, none⟩), .pointer (some ⟨k2, 0, none⟩), .pointer (some ⟨k3, 0, none⟩), .int .i64 0, .pointer (some ⟨k5, 0, none⟩), .int .i64 0, k7, .int .i64 30, k9, .int .i64 2, .bool true, .pointer (some ⟨k12, 0, none⟩), undef, undef, undef, undef, undef, p18, p19, p20, p21, p22, p23, p24, p25, p26, p27, p28, p29, p30, p31, p32, p33, p34, p35, p36, p37, p38, p39, p40, p41, p42, p43, p44, p45, p46, p47, p48, p49, p50, p51, p52, p53, p54, p55, p56, p57, p58, p59, p60, p61, p62, p63, p64, p65, p66, p67, p68, p69, p70, p71, p72, p73, p74, p75, p76, p77, p78, p79, p80, p81, p82, p83, p84, p85, p86, p87, p88, p89, p90, undef, undef, undef, undef, undef, undef, undef, undef, undef, undef, undef, undef, undef, undef, undef, undef, undef, undef, undef, undef, undef, undef, undef, undef, undef, undef, undef, undef, undef, undef, undef, undef, undef, undef, undef, undef, undef, undef, undef, undef, undef, undef, undef, undef, undef, undef, undef, undef, undef, undef, undef, undef, undef, undef, undef, undef, undef, undef, undef, undef, undef, undef, undef, undef, undef, undef, undef, undef, undef, undef, undef, undef, undef, undef, undef, undef, undef, undef, undef, undef, undef, undef, undef, undef, undef, undef, undef, undef, undef, undef, undef, undef, undef], defers := [] } W0 := by
  have hsz : (opsAt Tryz.f12 9).size = 7 := by kernel_rfl
  refine wp_region_box (by kernel_rfl) (by kernel_rfl) Fs9 (fun x => fr9 ⟨k1, k2, k3, k5, k12, k7, k9, undef, p18, p19, p20, p21, p22, p23, p24, p25, p26, p27, p28, p29, p30, p31, p32, p33, p34, p35, p36, p37, p38, p39, p40, p41, p42, p43, p44, p45, p46, p47, p48, p49, p50, p51, p52, p53, p54, p55, p56, p57, p58, p59, p60, p61, p62, p63, p64, p65, p66, p67, p68, p69, p70, p71, p72, p73, p74, p75, p76, p77, p78, p79, p80, p81, p82, p83, p84, p85, p86, p87, p88, p89, p90⟩ (x 0) (x 1) (x 2) (x 3) (x 4) (x 5)) (fun _ => undef) 5 6 4 fTrue (by kernel_rfl) (by decide) (by decide) (by decide) (by rw [hsz]; decide) (by rw [hsz]; decide) (by rw [hsz]; decide) rfl ?_ ?_ ?_ ?_
  · intro Ok i x W K hi hia his hO1 hO2 hS hd hK
    match i, hi, hd, hK with
    | 0, _, hd, hK => exact h9_0 (_x6 := undef) Ok hO1 K Q (hidi (B1.out.next (Nat.le_refl _) hS)) (fun b hb => ⟨Nat.lt_of_lt_of_le hb hS.size, hO2 b hb⟩) (fun v w' h hB => hK v w' h hB)
    | 1, _, hd, hK => exact h9_1 (_x6 := undef) Ok hO1 K Q (hidi (B1.out.next (Nat.le_refl _) hS)) (fun b hb => ⟨Nat.lt_of_lt_of_le hb hS.size, hO2 b hb⟩) (fun v w' h hB => hK v w' h hB)
    | 2, _, hd, hK => exact h9_2 (_x6 := undef) Ok hO1 K Q (hd 1 (by decide) (by decide) (by kernel_rfl)) (fun v w' h hB => hK v w' h hB)
    | 3, _, hd, hK => exact h9_3 (_x6 := undef) Ok hO1 K Q (hd 0 (by decide) (by decide) (by kernel_rfl)) (hd 2 (by decide) (by decide) (by kernel_rfl)) (fun v w' h hB => hK v w' h hB)
    | 4, _, hd, hK => exact h9_4 (_x6 := undef) Ok hO1 (hE.below hS) K Q (hd 3 (by decide) (by decide) (by kernel_rfl)) (fun v w' h hB => hK v w' h hB)
    | 5, _, hd, hK => exact absurd rfl hia
    | 6, _, hd, hK => exact absurd rfl his
    | n + 7, hi, _, _ => exact absurd hi (by have h : (opsAt Tryz.f12 9).size = 7 := (by kernel_rfl); omega)
  · intro x W K hK
    unfold opsAt Tryz.f12
    simp only [findRegion, Nat.reduceBEq, if_true, if_false, Bool.false_eq_true, Option.getD_some]
    refine wpOp_of_list' rfl ?_
    go_wp2_with fail
    exact hK
  · intro x W K k o c hk hres hxs hK
    obtain ⟨-, -, -, -, -, -, m0, m1, m2, m3, m4⟩ := hres.cells
    obtain ⟨j1, j2, j3, j4, j5, ⟨i0, i1, i2, i3, i4⟩, -⟩ := hres.cells
    have hKK : Hid (K (fr9 _ (x 0) (x 1) (x 2) (x 3) (x 4) (x 5)) _) := hK
    clear hK hres
    rw [hk, hxs] at hKK ⊢
    unfold fr9 opsAt Tryz.f12
    simp only [findRegion, Nat.reduceBEq, if_true, if_false, Bool.false_eq_true, Option.getD_some]
    refine wpOp_of_list' rfl ?_
    go_wp2_with fail
    exact hKK.out
  · intro x W k o c hk hS hkl h5 hf ha
    exact hend x W k o c hk hS ⟨hkl, h5, hf, ha⟩

set_option maxRecDepth 100000 in
set_option maxHeartbeats 4000000 in
theorem head_r12 {k1 k2 k3 k5 k12 k13 k14 : Nat} {k7 k9 p18 p19 p20 p21 p22 p23 p24 p25 p26 p27 p28 p29 p30 p31 p32 p33 p34 p35 p36 p37 p38 p39 p40 p41 p42 p43 p44 p45 p46 p47 p48 p49 p50 p51 p52 p53 p54 p55 p56 p57 p58 p59 p60 p61 p62 p63 p64 p65 p66 p67 p68 p69 p70 p71 p72 p73 p74 p75 p76 p77 p78 p79 p80 p81 p82 p83 p84 p85 p86 p87 p88 p89 p90 p91 p92 p93 p94 p95 p96 p97 p98 p99 p100 p101 p102 p103 p104 p105 p106 p107 p108 p109 p110 p111 p112 p113 p114 p115 p116 p117 p118 p119 p120 p121 p122 p123 p124 p125 p126 p127 p128 p129 : Value} (W0 : World) (Q : Exit → Act → World → Prop) {o1 o2 o3 o5 o12 o13 o14 : Option Addr} {c1 c2 c3 c5 c12 c13 c14 : Nat} (B1 : Hid (BoxF W0.heap.size W0 k1 hA o1 c1)) (B2 : Hid (BoxF W0.heap.size W0 k2 hB o2 c2)) (_ : Hid (BoxF W0.heap.size W0 k3 hX o3 c3)) (_ : Hid (BoxF W0.heap.size W0 k5 hY o5 c5)) (_ : Hid (BoxF W0.heap.size W0 k12 hAB o12 c12)) (_ : Hid (BoxF W0.heap.size W0 k13 fTrue o13 c13)) (_ : Hid (BoxF W0.heap.size W0 k14 hN o14 c14)) (_ : Env W0)
    (hend : ∀ (x : Nat → Value) (W : World) (k : Nat) (o : Option Addr) (c : Nat), x 5 = .pointer (some ⟨k, 0, none⟩) → Below W0.heap.size W0 W → BoxF W.heap.size W k hP o c → Q .normal { tmps := #[.bool false, .pointer (some ⟨k1, 0, none⟩), .pointer (some ⟨k2, 0, none⟩), .pointer (some ⟨k3, 0, none⟩), .int .i64 0, .pointer (some ⟨k5, 0, none⟩), .int .i64 0, k7, .int .i64 30, k9, .int .i64 2, .bool true, .pointer (some ⟨k12, 0, none⟩), .pointer (some ⟨k13, 0, none⟩), .pointer (some ⟨k14, 0, none⟩), .bool true, x 5, undef, p18, p19, p20, p21, p22, p23, p24, p25, p26, p27, p28, p29, p30, p31, p32, p33, p34, p35, p36, p37, p38, p39, p40, p41, p42, p43, p44, p45, p46, p47, p48, p49, p50, p51, p52, p53, p54, p55, p56, p57, p58, p59, p60, p61, p62, p63, p64, p65, p66, p67, p68, p69, p70, p71, p72, p73, p74, p75, p76, p77, p78, p79, p80, p81, p82, p83, p84, p85, p86, p87, p88, p89, p90, p91, p92, p93, p94, p95, p96, p97, p98, p99, p100, p101, p102, p103, p104, p105, p106, p107, p108, p109, p110, p111, p112, p113, p114, p115, p116, p117, p118, p119, p120, p121, p122, p123, p124, p125, p126, p127, p128, p129, x 0, x 1, x 2, x 3, x 4, undef, undef, undef, undef, undef, undef, undef, undef, undef, undef, undef, undef, undef, undef, undef, undef, undef, undef, undef, undef, undef, undef, undef, undef, undef, undef, undef, undef, undef, undef, undef, undef, undef, undef, undef, undef, undef, undef, undef, undef, undef, undef, undef, undef, undef, undef, undef, undef, undef], defers := [] } W) :
    (Code.region 12 (opsAt Tryz.f12 12) true).wp Tryz.prog Q { tmps := #[.bool false, .pointer (some ⟨k1, 0, none⟩), .pointer (some ⟨k2, 0, none⟩), .pointer (some ⟨k3, 0, none⟩), .int .i64 0, .pointer (some ⟨k5, 0, none⟩), .int .i64 0, k7, .int .i64 30, k9, .int .i64 2, .bool true, .pointer (some ⟨k12, 0, none⟩), .pointer (some ⟨k13, 0, none⟩), .pointer (some ⟨k14, 0, none⟩), .bool true, undef, undef, p18, p19, p20, p21, p22, p23, p24, p25, p26, p27, p28, p29, p30, p31, p32, p33, p34, p35, p36, p37, p38, p39, p40, p41, p42, p43, p44, p45, p46, p47, p48, p49, p50, p51, p52, p53, p54, p55, p56, p57, p58, p59, p60, p61, p62, p63, p64, p65, p66, p67, p68, p69, p70, p71, p72, p73, p74, p75, p76, p77, p78, p79, p80, p81, p82, p83, p84, p85, p86, p87, p88, p89, p90, p91, p92, p93, p94, p95, p96, p97, p98, p99, p100, p101, p102, p103, p104, p105, p106, p107, p108, p109, p110, p111, p112, p113, p114, p115, p116, p117, p118, p119, p120, p121, p122, p123, p124, p125, p126, p127, p128, p129, undef, undef, undef, undef, undef, undef, undef, undef, undef, undef, undef, undef, undef, undef, undef, undef, undef, undef, undef, undef, undef, undef, undef, undef, undef, undef, undef, undef, undef, undef, undef, undef, undef, undef, undef, undef, undef, undef, undef, undef, undef, undef, undef, undef, undef, undef, undef, undef, undef, undef, undef, undef, undef, undef], defers := [] } W0 := by
  have hsz : (opsAt Tryz.f12 12).size = 7 := by kernel_rfl
  refine wp_region_box (by kernel_rfl) (by kernel_rfl) Fs12 (fun x => fr12 ⟨k1, k2, k3, k5, k12, k13, k14, k7, k9, undef, p18, p19, p20, p21, p22, p23, p24, p25, p26, p27, p28, p29, p30, p31, p32, p33, p34, p35, p36, p37, p38, p39, p40, p41, p42, p43, p44, p45, p46, p47, p48, p49, p50, p51, p52, p53, p54, p55, p56, p57, p58, p59, p60, p61, p62, p63, p64, p65, p66, p67, p68, p69, p70, p71, p72, p73, p74, p75, p76, p77, p78, p79, p80, p81, p82, p83, p84, p85, p86, p87, p88, p89, p90, p91, p92, p93, p94, p95, p96, p97, p98, p99, p100, p101, p102, p103, p104, p105, p106, p107, p108, p109, p110, p111, p112, p113, p114, p115, p116, p117, p118, p119, p120, p121, p122, p123, p124, p125, p126, p127, p128, p129⟩ (x 0) (x 1) (x 2) (x 3) (x 4) (x 5)) (fun _ => undef) 5 6 4 hP (by kernel_rfl) (by decide) (by decide) (by decide) (by rw [hsz]; decide) (by rw [hsz]; decide) (by rw [hsz]; decide) rfl ?_ ?_ ?_ ?_
  · intro Ok i x W K hi hia his hO1 hO2 hS hd hK
    match i, hi, hd, hK with
    | 0, _, hd, hK => exact h12_0 (_x6 := undef) Ok hO1 K Q (hidi (B1.out.next (Nat.le_refl _) hS)) (fun b hb => ⟨Nat.lt_of_lt_of_le hb hS.size, hO2 b hb⟩) (fun v w' h hB => hK v w' h hB)
    | 1, _, hd, hK => exact h12_1 (_x6 := undef) Ok hO1 K Q (hidi (B2.out.next (Nat.le_refl _) hS)) (fun b hb => ⟨Nat.lt_of_lt_of_le hb hS.size, hO2 b hb⟩) (fun v w' h hB => hK v w' h hB)
    | 2, _, hd, hK => exact h12_2 (_x6 := undef) Ok hO1 K Q (hd 1 (by decide) (by decide) (by kernel_rfl)) (fun v w' h hB => hK v w' h hB)
    | 3, _, hd, hK => exact h12_3 (_x6 := undef) Ok hO1 K Q (hd 0 (by decide) (by decide) (by kernel_rfl)) (hd 2 (by decide) (by decide) (by kernel_rfl)) (fun v w' h hB => hK v w' h hB)
    | 4, _, hd, hK => exact h12_4 (_x6 := undef) Ok hO1 K Q (hd 3 (by decide) (by decide) (by kernel_rfl)) (fun v w' h hB => hK v w' h hB)
    | 5, _, hd, hK => exact absurd rfl hia
    | 6, _, hd, hK => exact absurd rfl his
    | n + 7, hi, _, _ => exact absurd hi (by have h : (opsAt Tryz.f12 12).size = 7 := (by kernel_rfl); omega)
  · intro x W K hK
    unfold opsAt Tryz.f12
    simp only [findRegion, Nat.reduceBEq, if_true, if_false, Bool.false_eq_true, Option.getD_some]
    refine wpOp_of_list' rfl ?_
    go_wp2_with fail
    exact hK
  · intro x W K k o c hk hres hxs hK
    obtain ⟨-, -, -, -, -, -, m0, m1, m2, m3, m4⟩ := hres.cells
    obtain ⟨j1, j2, j3, j4, j5, ⟨i0, i1, i2, i3, i4⟩, -⟩ := hres.cells
    have hKK : Hid (K (fr12 _ (x 0) (x 1) (x 2) (x 3) (x 4) (x 5)) _) := hK
    clear hK hres
    rw [hk, hxs] at hKK ⊢
    unfold fr12 opsAt Tryz.f12
    simp only [findRegion, Nat.reduceBEq, if_true, if_false, Bool.false_eq_true, Option.getD_some]
    refine wpOp_of_list' rfl ?_
    go_wp2_with fail
    exact hKK.out
  · intro x W k o c hk hS hkl h5 hf ha
    exact hend x W k o c hk hS ⟨hkl, h5, hf, ha⟩

end Go.Proofs.YtbnnjbfbifihaaaGreatDoor
