/-
  Contracts that the formula laws stand on, part Gn.
-/
import Derived.Test.YtbnnjbfbifihaaaGreatDoorGk

/-
  The operations of a drawn region of the law's head, one by one: region 14.
-/
namespace Go.Proofs.YtbnnjbfbifihaaaGreatDoor
open Go.RowKit

/-- what the frame of region 14 holds besides its own values -/
structure Fr14 where
  (k1 k2 k3 k5 k12 k13 k14 k16 : Nat)
  (k7 k9 p18 p19 p20 p21 p22 p23 p24 p25 p26 p27 p28 p29 p30 p31 p32 p33 p34 p35 p36 p37 p38 p39 p40 p41 p42 p43 p44 p45 p46 p47 p48 p49 p50 p51 p52 p53 p54 p55 p56 p57 p58 p59 p60 p61 p62 p63 p64 p65 p66 p67 p68 p69 p70 p71 p72 p73 p74 p75 p76 p77 p78 p79 p80 p81 p82 p83 p84 p85 p86 p87 p88 p89 p90 p91 p92 p93 p94 p95 p96 p97 p98 p99 p100 p101 p102 p103 p104 p105 p106 p107 p108 p109 p110 p111 p112 p113 p114 p115 p116 p117 p118 p119 p120 p121 p122 p123 p124 p125 p126 p127 p128 p129 p130 p131 p132 p133 p134 p135 p136 p137 p138 p139 p140 p141 p142 p143 p144 p145 p146 p147 p148 p149 p150 p151 p152 p153 p154 p155 p156 p157 p158 p159 p160 p161 : Value)
def fr14 (F : Fr14) (x0 x1 x2 x3 x4 x5 x6 x7 x8 x9 x10 x11 x12 x13 x14 x15 x16 x17 x18 x19 x20 x21 x22 : Value) : Act := { tmps := #[x22, .pointer (some ⟨F.k1, 0, none⟩), .pointer (some ⟨F.k2, 0, none⟩), .pointer (some ⟨F.k3, 0, none⟩), .int .i64 0, .pointer (some ⟨F.k5, 0, none⟩), .int .i64 0, F.k7, .int .i64 30, F.k9, .int .i64 2, .bool true, .pointer (some ⟨F.k12, 0, none⟩), .pointer (some ⟨F.k13, 0, none⟩), .pointer (some ⟨F.k14, 0, none⟩), .bool true, .pointer (some ⟨F.k16, 0, none⟩), .bool true, F.p18, F.p19, F.p20, F.p21, F.p22, F.p23, F.p24, F.p25, F.p26, F.p27, F.p28, F.p29, F.p30, F.p31, F.p32, F.p33, F.p34, F.p35, F.p36, F.p37, F.p38, F.p39, F.p40, F.p41, F.p42, F.p43, F.p44, F.p45, F.p46, F.p47, F.p48, F.p49, F.p50, F.p51, F.p52, F.p53, F.p54, F.p55, F.p56, F.p57, F.p58, F.p59, F.p60, F.p61, F.p62, F.p63, F.p64, F.p65, F.p66, F.p67, F.p68, F.p69, F.p70, F.p71, F.p72, F.p73, F.p74, F.p75, F.p76, F.p77, F.p78, F.p79, F.p80, F.p81, F.p82, F.p83, F.p84, F.p85, F.p86, F.p87, F.p88, F.p89, F.p90, F.p91, F.p92, F.p93, F.p94, F.p95, F.p96, F.p97, F.p98, F.p99, F.p100, F.p101, F.p102, F.p103, F.p104, F.p105, F.p106, F.p107, F.p108, F.p109, F.p110, F.p111, F.p112, F.p113, F.p114, F.p115, F.p116, F.p117, F.p118, F.p119, F.p120, F.p121, F.p122, F.p123, F.p124, F.p125, F.p126, F.p127, F.p128, F.p129, F.p130, F.p131, F.p132, F.p133, F.p134, F.p135, F.p136, F.p137, F.p138, F.p139, F.p140, F.p141, F.p142, F.p143, F.p144, F.p145, F.p146, F.p147, F.p148, F.p149, F.p150, F.p151, F.p152, F.p153, F.p154, F.p155, F.p156, F.p157, F.p158, F.p159, F.p160, F.p161, x0, x1, x2, x3, x4, x5, x6, x7, x8, x9, x10, x11, x12, x13, x14, x15, x16, x17, x18, x19, x20, x21], defers := [] }

set_option maxRecDepth 100000 in
set_option maxHeartbeats 1000000 in
theorem h14_0 {F : Fr14} {W : World} (Ok : Nat → Prop) (_ : ∀ b, W.heap.size ≤ b → Ok b) (K : Act → World → Prop) (Q : Exit → Act → World → Prop) {x0 x1 x2 x3 x4 x5 x6 x7 x8 x9 x10 x11 x12 x13 x14 x15 x16 x17 x18 x19 x20 x21 x22 : Value} 
    (hK : ∀ v w', (Fs14 0).holds Ok v w' → Below W.heap.size W w' → K (fr14 F v x1 x2 x3 x4 x5 x6 x7 x8 x9 x10 x11 x12 x13 x14 x15 x16 x17 x18 x19 x20 x21 x22) w') :
    wpOp Tryz.prog (opsAt Tryz.f12 14) Q 0 K (fr14 F x0 x1 x2 x3 x4 x5 x6 x7 x8 x9 x10 x11 x12 x13 x14 x15 x16 x17 x18 x19 x20 x21 x22) W := by
  unfold fr14 opsAt Tryz.f12
  simp only [findRegion, Nat.reduceBEq, if_true, if_false, Bool.false_eq_true, Option.getD_some]
  refine wpOp_of_list' rfl ?_
  go_wp2_with fail
  exact hK _ _ rfl (Below.refl _ _)

set_option maxRecDepth 100000 in
set_option maxHeartbeats 1000000 in
theorem h14_1 {F : Fr14} {W : World} (Ok : Nat → Prop) (_ : ∀ b, W.heap.size ≤ b → Ok b) (K : Act → World → Prop) (Q : Exit → Act → World → Prop) {x0 x1 x2 x3 x4 x5 x6 x7 x8 x9 x10 x11 x12 x13 x14 x15 x16 x17 x18 x19 x20 x21 x22 : Value} (q0 : (Fs14 0).holds Ok x0 W)
    (hK : ∀ v w', (Fs14 1).holds Ok v w' → Below W.heap.size W w' → K (fr14 F x0 v x2 x3 x4 x5 x6 x7 x8 x9 x10 x11 x12 x13 x14 x15 x16 x17 x18 x19 x20 x21 x22) w') :
    wpOp Tryz.prog (opsAt Tryz.f12 14) Q 1 K (fr14 F x0 x1 x2 x3 x4 x5 x6 x7 x8 x9 x10 x11 x12 x13 x14 x15 x16 x17 x18 x19 x20 x21 x22) W := by
  obtain rfl : x0 = .bool true := q0
  unfold fr14 opsAt Tryz.f12
  simp only [findRegion, Nat.reduceBEq, if_true, if_false, Bool.false_eq_true, Option.getD_some]
  refine wpOp_of_list' rfl ?_
  go_wp2_with fail
  exact hK _ _ rfl (Below.refl _ _)

set_option maxRecDepth 100000 in
set_option maxHeartbeats 1000000 in
theorem h14_2 {F : Fr14} {W : World} (Ok : Nat → Prop) (_ : ∀ b, W.heap.size ≤ b → Ok b) (K : Act → World → Prop) (Q : Exit → Act → World → Prop) {x0 x1 x2 x3 x4 x5 x6 x7 x8 x9 x10 x11 x12 x13 x14 x15 x16 x17 x18 x19 x20 x21 x22 : Value} (q1 : (Fs14 1).holds Ok x1 W)
    (hK : ∀ v w', (Fs14 2).holds Ok v w' → Below W.heap.size W w' → K (fr14 F x0 x1 v x3 x4 x5 x6 x7 x8 x9 x10 x11 x12 x13 x14 x15 x16 x17 x18 x19 x20 x21 x22) w') :
    wpOp Tryz.prog (opsAt Tryz.f12 14) Q 2 K (fr14 F x0 x1 x2 x3 x4 x5 x6 x7 x8 x9 x10 x11 x12 x13 x14 x15 x16 x17 x18 x19 x20 x21 x22) W := by
  obtain rfl : x1 = .bool true := q1
  unfold fr14 opsAt Tryz.f12
  simp only [findRegion, Nat.reduceBEq, if_true, if_false, Bool.false_eq_true, Option.getD_some]
  refine wpOp_of_list' rfl ?_
  go_wp2_with fail
  exact hK _ _ rfl (Below.refl _ _)

set_option maxRecDepth 100000 in
set_option maxHeartbeats 1000000 in
theorem h14_3 {F : Fr14} {W : World} (Ok : Nat → Prop) (_ : ∀ b, W.heap.size ≤ b → Ok b) (K : Act → World → Prop) (Q : Exit → Act → World → Prop) {x0 x1 x2 x3 x4 x5 x6 x7 x8 x9 x10 x11 x12 x13 x14 x15 x16 x17 x18 x19 x20 x21 x22 : Value} (q1 : (Fs14 1).holds Ok x1 W) (q2 : (Fs14 2).holds Ok x2 W)
    (hK : ∀ v w', (Fs14 3).holds Ok v w' → Below W.heap.size W w' → K (fr14 F x0 x1 x2 v x4 x5 x6 x7 x8 x9 x10 x11 x12 x13 x14 x15 x16 x17 x18 x19 x20 x21 x22) w') :
    wpOp Tryz.prog (opsAt Tryz.f12 14) Q 3 K (fr14 F x0 x1 x2 x3 x4 x5 x6 x7 x8 x9 x10 x11 x12 x13 x14 x15 x16 x17 x18 x19 x20 x21 x22) W := by
  obtain rfl : x1 = .bool true := q1
  obtain rfl : x2 = .bool true := q2
  unfold fr14 opsAt Tryz.f12
  simp only [findRegion, Nat.reduceBEq, if_true, if_false, Bool.false_eq_true, Option.getD_some]
  refine wpOp_of_list' rfl ?_
  go_wp2_with fail
  exact hK _ _ rfl (Below.refl _ _)

set_option maxRecDepth 100000 in
set_option maxHeartbeats 1000000 in
theorem h14_4 {F : Fr14} {W : World} (Ok : Nat → Prop) (_ : ∀ b, W.heap.size ≤ b → Ok b) (K : Act → World → Prop) (Q : Exit → Act → World → Prop) {x0 x1 x2 x3 x4 x5 x6 x7 x8 x9 x10 x11 x12 x13 x14 x15 x16 x17 x18 x19 x20 x21 x22 : Value} (q3 : (Fs14 3).holds Ok x3 W)
    (hK : ∀ v w', (Fs14 4).holds Ok v w' → Below W.heap.size W w' → K (fr14 F x0 x1 x2 x3 v x5 x6 x7 x8 x9 x10 x11 x12 x13 x14 x15 x16 x17 x18 x19 x20 x21 x22) w') :
    wpOp Tryz.prog (opsAt Tryz.f12 14) Q 4 K (fr14 F x0 x1 x2 x3 x4 x5 x6 x7 x8 x9 x10 x11 x12 x13 x14 x15 x16 x17 x18 x19 x20 x21 x22) W := by
  obtain rfl : x3 = .bool true := q3
  unfold fr14 opsAt Tryz.f12
  simp only [findRegion, Nat.reduceBEq, if_true, if_false, Bool.false_eq_true, Option.getD_some]
  refine wpOp_of_list' rfl ?_
  go_wp2_with fail
  exact hK _ _ rfl (Below.refl _ _)

set_option maxRecDepth 100000 in
set_option maxHeartbeats 1000000 in
theorem h14_5 {F : Fr14} {W : World} (Ok : Nat → Prop) (_ : ∀ b, W.heap.size ≤ b → Ok b) (K : Act → World → Prop) (Q : Exit → Act → World → Prop) {x0 x1 x2 x3 x4 x5 x6 x7 x8 x9 x10 x11 x12 x13 x14 x15 x16 x17 x18 x19 x20 x21 x22 : Value} (q4 : (Fs14 4).holds Ok x4 W)
    (hK : ∀ v w', (Fs14 5).holds Ok v w' → Below W.heap.size W w' → K (fr14 F x0 x1 x2 x3 x4 v x6 x7 x8 x9 x10 x11 x12 x13 x14 x15 x16 x17 x18 x19 x20 x21 x22) w') :
    wpOp Tryz.prog (opsAt Tryz.f12 14) Q 5 K (fr14 F x0 x1 x2 x3 x4 x5 x6 x7 x8 x9 x10 x11 x12 x13 x14 x15 x16 x17 x18 x19 x20 x21 x22) W := by
  obtain rfl : x4 = .bool true := q4
  unfold fr14 opsAt Tryz.f12
  simp only [findRegion, Nat.reduceBEq, if_true, if_false, Bool.false_eq_true, Option.getD_some]
  refine wpOp_of_list' rfl ?_
  go_wp2_with fail
  exact hK _ _ rfl (Below.refl _ _)

set_option maxRecDepth 100000 in
set_option maxHeartbeats 1000000 in
theorem h14_6 {F : Fr14} {W : World} (Ok : Nat → Prop) (_ : ∀ b, W.heap.size ≤ b → Ok b) (K : Act → World → Prop) (Q : Exit → Act → World → Prop) {x0 x1 x2 x3 x4 x5 x6 x7 x8 x9 x10 x11 x12 x13 x14 x15 x16 x17 x18 x19 x20 x21 x22 : Value} (q4 : (Fs14 4).holds Ok x4 W) (q5 : (Fs14 5).holds Ok x5 W)
    (hK : ∀ v w', (Fs14 6).holds Ok v w' → Below W.heap.size W w' → K (fr14 F x0 x1 x2 x3 x4 x5 v x7 x8 x9 x10 x11 x12 x13 x14 x15 x16 x17 x18 x19 x20 x21 x22) w') :
    wpOp Tryz.prog (opsAt Tryz.f12 14) Q 6 K (fr14 F x0 x1 x2 x3 x4 x5 x6 x7 x8 x9 x10 x11 x12 x13 x14 x15 x16 x17 x18 x19 x20 x21 x22) W := by
  obtain rfl : x4 = .bool true := q4
  obtain rfl : x5 = .bool true := q5
  unfold fr14 opsAt Tryz.f12
  simp only [findRegion, Nat.reduceBEq, if_true, if_false, Bool.false_eq_true, Option.getD_some]
  refine wpOp_of_list' rfl ?_
  go_wp2_with fail
  exact hK _ _ rfl (Below.refl _ _)

set_option maxRecDepth 100000 in
set_option maxHeartbeats 1000000 in
theorem h14_7 {F : Fr14} {W : World} (Ok : Nat → Prop) (_ : ∀ b, W.heap.size ≤ b → Ok b) (K : Act → World → Prop) (Q : Exit → Act → World → Prop) {x0 x1 x2 x3 x4 x5 x6 x7 x8 x9 x10 x11 x12 x13 x14 x15 x16 x17 x18 x19 x20 x21 x22 : Value} (q6 : (Fs14 6).holds Ok x6 W)
    (hK : ∀ v w', (Fs14 7).holds Ok v w' → Below W.heap.size W w' → K (fr14 F x0 x1 x2 x3 x4 x5 x6 v x8 x9 x10 x11 x12 x13 x14 x15 x16 x17 x18 x19 x20 x21 x22) w') :
    wpOp Tryz.prog (opsAt Tryz.f12 14) Q 7 K (fr14 F x0 x1 x2 x3 x4 x5 x6 x7 x8 x9 x10 x11 x12 x13 x14 x15 x16 x17 x18 x19 x20 x21 x22) W := by
  obtain rfl : x6 = .bool true := q6
  unfold fr14 opsAt Tryz.f12
  simp only [findRegion, Nat.reduceBEq, if_true, if_false, Bool.false_eq_true, Option.getD_some]
  refine wpOp_of_list' rfl ?_
  go_wp2_with fail
  exact hK _ _ rfl (Below.refl _ _)

set_option maxRecDepth 100000 in
set_option maxHeartbeats 1000000 in
theorem h14_8 {F : Fr14} {W : World} (Ok : Nat → Prop) (_ : ∀ b, W.heap.size ≤ b → Ok b) (K : Act → World → Prop) (Q : Exit → Act → World → Prop) {x0 x1 x2 x3 x4 x5 x6 x7 x8 x9 x10 x11 x12 x13 x14 x15 x16 x17 x18 x19 x20 x21 x22 : Value} {n0 : Nat} {o2 : Option Addr} {c2 : Nat} (B2 : Hid (BoxF n0 W F.k2 hB o2 c2)) (hn0 : ∀ b, b < n0 → b < W.heap.size ∧ Ok b) (q7 : (Fs14 7).holds Ok x7 W)
    (hK : ∀ v w', (Fs14 8).holds Ok v w' → Below W.heap.size W w' → K (fr14 F x0 x1 x2 x3 x4 x5 x6 x7 v x9 x10 x11 x12 x13 x14 x15 x16 x17 x18 x19 x20 x21 x22) w') :
    wpOp Tryz.prog (opsAt Tryz.f12 14) Q 8 K (fr14 F x0 x1 x2 x3 x4 x5 x6 x7 x8 x9 x10 x11 x12 x13 x14 x15 x16 x17 x18 x19 x20 x21 x22) W := by
  obtain rfl : x7 = .bool true := q7
  obtain ⟨-, ⟨b0, b1, b2, b3, b4⟩, hf, ha⟩ := B2.out
  rw [Nat.zero_add] at b1 b2 b3 b4
  unfold fr14 opsAt Tryz.f12
  simp only [findRegion, Nat.reduceBEq, if_true, if_false, Bool.false_eq_true, Option.getD_some]
  refine wpOp_of_list' rfl ?_
  go_wp2_with fail
  exact hK _ _ ⟨_, rfl, hf, FArgsP.mono ha hn0⟩ (Below.refl _ _)

set_option maxRecDepth 100000 in
set_option maxHeartbeats 1000000 in
theorem h14_9 {F : Fr14} {W : World} (Ok : Nat → Prop) (_ : ∀ b, W.heap.size ≤ b → Ok b) (K : Act → World → Prop) (Q : Exit → Act → World → Prop) {x0 x1 x2 x3 x4 x5 x6 x7 x8 x9 x10 x11 x12 x13 x14 x15 x16 x17 x18 x19 x20 x21 x22 : Value} {n0 : Nat} {o1 : Option Addr} {c1 : Nat} (B1 : Hid (BoxF n0 W F.k1 hA o1 c1)) (hn0 : ∀ b, b < n0 → b < W.heap.size ∧ Ok b) (q7 : (Fs14 7).holds Ok x7 W)
    (hK : ∀ v w', (Fs14 9).holds Ok v w' → Below W.heap.size W w' → K (fr14 F x0 x1 x2 x3 x4 x5 x6 x7 x8 v x10 x11 x12 x13 x14 x15 x16 x17 x18 x19 x20 x21 x22) w') :
    wpOp Tryz.prog (opsAt Tryz.f12 14) Q 9 K (fr14 F x0 x1 x2 x3 x4 x5 x6 x7 x8 x9 x10 x11 x12 x13 x14 x15 x16 x17 x18 x19 x20 x21 x22) W := by
  obtain rfl : x7 = .bool true := q7
  obtain ⟨-, ⟨b0, b1, b2, b3, b4⟩, hf, ha⟩ := B1.out
  rw [Nat.zero_add] at b1 b2 b3 b4
  unfold fr14 opsAt Tryz.f12
  simp only [findRegion, Nat.reduceBEq, if_true, if_false, Bool.false_eq_true, Option.getD_some]
  refine wpOp_of_list' rfl ?_
  go_wp2_with fail
  exact hK _ _ ⟨_, rfl, hf, FArgsP.mono ha hn0⟩ (Below.refl _ _)

set_option maxRecDepth 100000 in
set_option maxHeartbeats 1000000 in
theorem h14_10 {F : Fr14} {W : World} (Ok : Nat → Prop) (_ : ∀ b, W.heap.size ≤ b → Ok b) (K : Act → World → Prop) (Q : Exit → Act → World → Prop) {x0 x1 x2 x3 x4 x5 x6 x7 x8 x9 x10 x11 x12 x13 x14 x15 x16 x17 x18 x19 x20 x21 x22 : Value} {n0 : Nat} {o2 : Option Addr} {c2 : Nat} (B2 : Hid (BoxF n0 W F.k2 hB o2 c2)) (hn0 : ∀ b, b < n0 → b < W.heap.size ∧ Ok b) (q7 : (Fs14 7).holds Ok x7 W)
    (hK : ∀ v w', (Fs14 10).holds Ok v w' → Below W.heap.size W w' → K (fr14 F x0 x1 x2 x3 x4 x5 x6 x7 x8 x9 v x11 x12 x13 x14 x15 x16 x17 x18 x19 x20 x21 x22) w') :
    wpOp Tryz.prog (opsAt Tryz.f12 14) Q 10 K (fr14 F x0 x1 x2 x3 x4 x5 x6 x7 x8 x9 x10 x11 x12 x13 x14 x15 x16 x17 x18 x19 x20 x21 x22) W := by
  obtain rfl : x7 = .bool true := q7
  obtain ⟨-, ⟨b0, b1, b2, b3, b4⟩, hf, ha⟩ := B2.out
  rw [Nat.zero_add] at b1 b2 b3 b4
  unfold fr14 opsAt Tryz.f12
  simp only [findRegion, Nat.reduceBEq, if_true, if_false, Bool.false_eq_true, Option.getD_some]
  refine wpOp_of_list' rfl ?_
  go_wp2_with fail
  exact hK _ _ ⟨_, rfl, hf, FArgsP.mono ha hn0⟩ (Below.refl _ _)

set_option maxRecDepth 100000 in
set_option maxHeartbeats 1000000 in
theorem h14_11 {F : Fr14} {W : World} (Ok : Nat → Prop) (hOk : ∀ b, W.heap.size ≤ b → Ok b) (K : Act → World → Prop) (Q : Exit → Act → World → Prop) {x0 x1 x2 x3 x4 x5 x6 x7 x8 x9 x10 x11 x12 x13 x14 x15 x16 x17 x18 x19 x20 x21 x22 : Value} (q7 : (Fs14 7).holds Ok x7 W) (q9 : (Fs14 9).holds Ok x9 W) (q10 : (Fs14 10).holds Ok x10 W)
    (hK : ∀ v w', (Fs14 11).holds Ok v w' → Below W.heap.size W w' → K (fr14 F x0 x1 x2 x3 x4 x5 x6 x7 x8 x9 x10 v x12 x13 x14 x15 x16 x17 x18 x19 x20 x21 x22) w') :
    wpOp Tryz.prog (opsAt Tryz.f12 14) Q 11 K (fr14 F x0 x1 x2 x3 x4 x5 x6 x7 x8 x9 x10 x11 x12 x13 x14 x15 x16 x17 x18 x19 x20 x21 x22) W := by
  obtain rfl : x7 = .bool true := q7
  replace q9 : FAtP (fun b => b < W.heap.size ∧ Ok b) W x9 hA := q9
  replace q10 : FAtP (fun b => b < W.heap.size ∧ Ok b) W x10 hB := q10
  unfold fr14 opsAt Tryz.f12
  simp only [findRegion, Nat.reduceBEq, if_true, if_false, Bool.false_eq_true, Option.getD_some]
  refine wpOp_of_list' rfl ?_
  go_wp2_with (go_at_call 44; refine (reftwo_any (fun b => b < W.heap.size ∧ Ok b) 6 _ _ _ _ _ q9 q10 (fun b hb => hb.1) (i64_of (by decide) (by decide))).mono ?_; rintro e W2 ⟨r, rfl, hN, hb⟩)
  exact hK _ _ (fm_got hN hb hOk) hb

set_option maxRecDepth 100000 in
set_option maxHeartbeats 1000000 in
theorem h14_12 {F : Fr14} {W : World} (Ok : Nat → Prop) (hOk : ∀ b, W.heap.size ≤ b → Ok b) (K : Act → World → Prop) (Q : Exit → Act → World → Prop) {x0 x1 x2 x3 x4 x5 x6 x7 x8 x9 x10 x11 x12 x13 x14 x15 x16 x17 x18 x19 x20 x21 x22 : Value} (q7 : (Fs14 7).holds Ok x7 W) (q8 : (Fs14 8).holds Ok x8 W) (q11 : (Fs14 11).holds Ok x11 W)
    (hK : ∀ v w', (Fs14 12).holds Ok v w' → Below W.heap.size W w' → K (fr14 F x0 x1 x2 x3 x4 x5 x6 x7 x8 x9 x10 x11 v x13 x14 x15 x16 x17 x18 x19 x20 x21 x22) w') :
    wpOp Tryz.prog (opsAt Tryz.f12 14) Q 12 K (fr14 F x0 x1 x2 x3 x4 x5 x6 x7 x8 x9 x10 x11 x12 x13 x14 x15 x16 x17 x18 x19 x20 x21 x22) W := by
  obtain rfl : x7 = .bool true := q7
  replace q8 : FAtP (fun b => b < W.heap.size ∧ Ok b) W x8 hB := q8
  replace q11 : FAtP (fun b => b < W.heap.size ∧ Ok b) W x11 hOab := q11
  unfold fr14 opsAt Tryz.f12
  simp only [findRegion, Nat.reduceBEq, if_true, if_false, Bool.false_eq_true, Option.getD_some]
  refine wpOp_of_list' rfl ?_
  go_wp2_with (go_at_call 44; refine (reftwo_any (fun b => b < W.heap.size ∧ Ok b) 7 _ _ _ _ _ q8 q11 (fun b hb => hb.1) (i64_of (by decide) (by decide))).mono ?_; rintro e W2 ⟨r, rfl, hN, hb⟩)
  exact hK _ _ (fm_got hN hb hOk) hb

set_option maxRecDepth 100000 in
set_option maxHeartbeats 1000000 in
theorem h14_13 {F : Fr14} {W : World} (Ok : Nat → Prop) (hOk : ∀ b, W.heap.size ≤ b → Ok b) (hE : Env W) (K : Act → World → Prop) (Q : Exit → Act → World → Prop) {x0 x1 x2 x3 x4 x5 x6 x7 x8 x9 x10 x11 x12 x13 x14 x15 x16 x17 x18 x19 x20 x21 x22 : Value} (q7 : (Fs14 7).holds Ok x7 W) (q12 : (Fs14 12).holds Ok x12 W)
    (hK : ∀ v w', (Fs14 13).holds Ok v w' → Below W.heap.size W w' → K (fr14 F x0 x1 x2 x3 x4 x5 x6 x7 x8 x9 x10 x11 x12 v x14 x15 x16 x17 x18 x19 x20 x21 x22) w') :
    wpOp Tryz.prog (opsAt Tryz.f12 14) Q 13 K (fr14 F x0 x1 x2 x3 x4 x5 x6 x7 x8 x9 x10 x11 x12 x13 x14 x15 x16 x17 x18 x19 x20 x21 x22) W := by
  obtain rfl : x7 = .bool true := q7
  replace q12 : FAtP (fun b => b < W.heap.size ∧ Ok b) W x12 hI := q12
  unfold fr14 opsAt Tryz.f12
  simp only [findRegion, Nat.reduceBEq, if_true, if_false, Bool.false_eq_true, Option.getD_some]
  refine wpOp_of_list' rfl ?_
  go_wp2_with (go_at_call 26; refine (names_any _ W.heap.size _ _ (fm_at q12) (Nat.le_refl _) hE (by decide +kernel)).mono ?_; rintro e W2 ⟨r, rfl, hN, hb⟩; rw [hd_names] at hN)
  exact hK _ _ (StrsP.mono hN fun b hb => ⟨hb.2, hOk b hb.1⟩) hb

set_option maxRecDepth 100000 in
set_option maxHeartbeats 1000000 in
theorem h14_14 {F : Fr14} {W : World} (Ok : Nat → Prop) (hOk : ∀ b, W.heap.size ≤ b → Ok b) (K : Act → World → Prop) (Q : Exit → Act → World → Prop) {x0 x1 x2 x3 x4 x5 x6 x7 x8 x9 x10 x11 x12 x13 x14 x15 x16 x17 x18 x19 x20 x21 x22 : Value} (q7 : (Fs14 7).holds Ok x7 W)
    (hK : ∀ v w', (Fs14 14).holds Ok v w' → Below W.heap.size W w' → K (fr14 F x0 x1 x2 x3 x4 x5 x6 x7 x8 x9 x10 x11 x12 x13 v x15 x16 x17 x18 x19 x20 x21 x22) w') :
    wpOp Tryz.prog (opsAt Tryz.f12 14) Q 14 K (fr14 F x0 x1 x2 x3 x4 x5 x6 x7 x8 x9 x10 x11 x12 x13 x14 x15 x16 x17 x18 x19 x20 x21 x22) W := by
  obtain rfl : x7 = .bool true := q7
  unfold fr14 opsAt Tryz.f12
  simp only [findRegion, Nat.reduceBEq, if_true, if_false, Bool.false_eq_true, Option.getD_some]
  refine wpOp_of_list' rfl ?_
  go_wp2_with fail
  exact hK _ _ (strs_ab W Ok hOk) (below_box W _)

set_option maxRecDepth 100000 in
set_option maxHeartbeats 1000000 in
theorem h14_15 {F : Fr14} {W : World} (Ok : Nat → Prop) (_ : ∀ b, W.heap.size ≤ b → Ok b) (K : Act → World → Prop) (Q : Exit → Act → World → Prop) {x0 x1 x2 x3 x4 x5 x6 x7 x8 x9 x10 x11 x12 x13 x14 x15 x16 x17 x18 x19 x20 x21 x22 : Value} (q7 : (Fs14 7).holds Ok x7 W) (q13 : (Fs14 13).holds Ok x13 W) (q14 : (Fs14 14).holds Ok x14 W)
    (hK : ∀ v w', (Fs14 15).holds Ok v w' → Below W.heap.size W w' → K (fr14 F x0 x1 x2 x3 x4 x5 x6 x7 x8 x9 x10 x11 x12 x13 x14 v x16 x17 x18 x19 x20 x21 x22) w') :
    wpOp Tryz.prog (opsAt Tryz.f12 14) Q 15 K (fr14 F x0 x1 x2 x3 x4 x5 x6 x7 x8 x9 x10 x11 x12 x13 x14 x15 x16 x17 x18 x19 x20 x21 x22) W := by
  obtain rfl : x7 = .bool true := q7
  replace q13 : StrsP (fun b => b < W.heap.size ∧ Ok b) W x13 [⟨#[97]⟩, ⟨#[98]⟩] := q13
  replace q14 : StrsP (fun b => b < W.heap.size ∧ Ok b) W x14 [⟨#[97]⟩, ⟨#[98]⟩] := q14
  unfold fr14 opsAt Tryz.f12
  simp only [findRegion, Nat.reduceBEq, if_true, if_false, Bool.false_eq_true, Option.getD_some]
  refine wpOp_of_list' rfl ?_
  go_wp2_with (go_at_call 25; refine (strings_any W.heap.size _ _ _ _ _ (StrsP.mono q13 fun _ hb => hb.1) (StrsP.mono q14 fun _ hb => hb.1) (Nat.le_refl _)).mono ?_; rintro e W2 ⟨rfl, hb⟩; rw [strsB_self])
  exact hK _ _ rfl hb

set_option maxRecDepth 100000 in
set_option maxHeartbeats 1000000 in
theorem h14_16 {F : Fr14} {W : World} (Ok : Nat → Prop) (_ : ∀ b, W.heap.size ≤ b → Ok b) (K : Act → World → Prop) (Q : Exit → Act → World → Prop) {x0 x1 x2 x3 x4 x5 x6 x7 x8 x9 x10 x11 x12 x13 x14 x15 x16 x17 x18 x19 x20 x21 x22 : Value} (q7 : (Fs14 7).holds Ok x7 W) (q15 : (Fs14 15).holds Ok x15 W)
    (hK : ∀ v w', (Fs14 16).holds Ok v w' → Below W.heap.size W w' → K (fr14 F x0 x1 x2 x3 x4 x5 x6 x7 x8 x9 x10 x11 x12 x13 x14 x15 v x17 x18 x19 x20 x21 x22) w') :
    wpOp Tryz.prog (opsAt Tryz.f12 14) Q 16 K (fr14 F x0 x1 x2 x3 x4 x5 x6 x7 x8 x9 x10 x11 x12 x13 x14 x15 x16 x17 x18 x19 x20 x21 x22) W := by
  obtain rfl : x7 = .bool true := q7
  obtain rfl : x15 = .bool true := q15
  unfold fr14 opsAt Tryz.f12
  simp only [findRegion, Nat.reduceBEq, if_true, if_false, Bool.false_eq_true, Option.getD_some]
  refine wpOp_of_list' rfl ?_
  go_wp2_with fail
  exact hK _ _ rfl (Below.refl _ _)

set_option maxRecDepth 100000 in
set_option maxHeartbeats 1000000 in
theorem h14_17 {F : Fr14} {W : World} (Ok : Nat → Prop) (_ : ∀ b, W.heap.size ≤ b → Ok b) (K : Act → World → Prop) (Q : Exit → Act → World → Prop) {x0 x1 x2 x3 x4 x5 x6 x7 x8 x9 x10 x11 x12 x13 x14 x15 x16 x17 x18 x19 x20 x21 x22 : Value} (q16 : (Fs14 16).holds Ok x16 W)
    (hK : ∀ v w', (Fs14 17).holds Ok v w' → Below W.heap.size W w' → K (fr14 F x0 x1 x2 x3 x4 x5 x6 x7 x8 x9 x10 x11 x12 x13 x14 x15 x16 v x18 x19 x20 x21 x22) w') :
    wpOp Tryz.prog (opsAt Tryz.f12 14) Q 17 K (fr14 F x0 x1 x2 x3 x4 x5 x6 x7 x8 x9 x10 x11 x12 x13 x14 x15 x16 x17 x18 x19 x20 x21 x22) W := by
  obtain rfl : x16 = .bool true := q16
  unfold fr14 opsAt Tryz.f12
  simp only [findRegion, Nat.reduceBEq, if_true, if_false, Bool.false_eq_true, Option.getD_some]
  refine wpOp_of_list' rfl ?_
  go_wp2_with fail
  exact hK _ _ rfl (Below.refl _ _)

set_option maxRecDepth 100000 in
set_option maxHeartbeats 1000000 in
theorem h14_18 {F : Fr14} {W : World} (Ok : Nat → Prop) (_ : ∀ b, W.heap.size ≤ b → Ok b) (K : Act → World → Prop) (Q : Exit → Act → World → Prop) {x0 x1 x2 x3 x4 x5 x6 x7 x8 x9 x10 x11 x12 x13 x14 x15 x16 x17 x18 x19 x20 x21 x22 : Value} (q17 : (Fs14 17).holds Ok x17 W)
    (hK : ∀ v w', (Fs14 18).holds Ok v w' → Below W.heap.size W w' → K (fr14 F x0 x1 x2 x3 x4 x5 x6 x7 x8 x9 x10 x11 x12 x13 x14 x15 x16 x17 v x19 x20 x21 x22) w') :
    wpOp Tryz.prog (opsAt Tryz.f12 14) Q 18 K (fr14 F x0 x1 x2 x3 x4 x5 x6 x7 x8 x9 x10 x11 x12 x13 x14 x15 x16 x17 x18 x19 x20 x21 x22) W := by
  obtain rfl : x17 = .bool true := q17
  unfold fr14 opsAt Tryz.f12
  simp only [findRegion, Nat.reduceBEq, if_true, if_false, Bool.false_eq_true, Option.getD_some]
  refine wpOp_of_list' rfl ?_
  go_wp2_with fail
  exact hK _ _ rfl (Below.refl _ _)

set_option maxRecDepth 100000 in
set_option maxHeartbeats 1000000 in
theorem h14_19 {F : Fr14} {W : World} (Ok : Nat → Prop) (_ : ∀ b, W.heap.size ≤ b → Ok b) (K : Act → World → Prop) (Q : Exit → Act → World → Prop) {x0 x1 x2 x3 x4 x5 x6 x7 x8 x9 x10 x11 x12 x13 x14 x15 x16 x17 x18 x19 x20 x21 x22 : Value} (q17 : (Fs14 17).holds Ok x17 W) (q18 : (Fs14 18).holds Ok x18 W)
    (hK : ∀ v w', (Fs14 19).holds Ok v w' → Below W.heap.size W w' → K (fr14 F x0 x1 x2 x3 x4 x5 x6 x7 x8 x9 x10 x11 x12 x13 x14 x15 x16 x17 x18 v x20 x21 x22) w') :
    wpOp Tryz.prog (opsAt Tryz.f12 14) Q 19 K (fr14 F x0 x1 x2 x3 x4 x5 x6 x7 x8 x9 x10 x11 x12 x13 x14 x15 x16 x17 x18 x19 x20 x21 x22) W := by
  obtain rfl : x17 = .bool true := q17
  obtain rfl : x18 = .agg #[.string ⟨#[97]⟩, .bool false, .int .i64 2] := q18
  unfold fr14 opsAt Tryz.f12
  simp only [findRegion, Nat.reduceBEq, if_true, if_false, Bool.false_eq_true, Option.getD_some]
  refine wpOp_of_list' rfl ?_
  go_wp2_with fail
  exact hK _ _ (sigs_a W) (below_box W _)

set_option maxRecDepth 100000 in
set_option maxHeartbeats 1000000 in
theorem h14_20 {F : Fr14} {W : World} (Ok : Nat → Prop) (_ : ∀ b, W.heap.size ≤ b → Ok b) (K : Act → World → Prop) (Q : Exit → Act → World → Prop) {x0 x1 x2 x3 x4 x5 x6 x7 x8 x9 x10 x11 x12 x13 x14 x15 x16 x17 x18 x19 x20 x21 x22 : Value} (q17 : (Fs14 17).holds Ok x17 W) (q19 : (Fs14 19).holds Ok x19 W)
    (hK : ∀ v w', (Fs14 20).holds Ok v w' → Below W.heap.size W w' → K (fr14 F x0 x1 x2 x3 x4 x5 x6 x7 x8 x9 x10 x11 x12 x13 x14 x15 x16 x17 x18 x19 v x21 x22) w') :
    wpOp Tryz.prog (opsAt Tryz.f12 14) Q 20 K (fr14 F x0 x1 x2 x3 x4 x5 x6 x7 x8 x9 x10 x11 x12 x13 x14 x15 x16 x17 x18 x19 x20 x21 x22) W := by
  obtain rfl : x17 = .bool true := q17
  replace q19 : Sigs W.heap.size W x19 [⟨⟨#[97]⟩, false, 2⟩] := q19
  unfold fr14 opsAt Tryz.f12
  simp only [findRegion, Nat.reduceBEq, if_true, if_false, Bool.false_eq_true, Option.getD_some]
  refine wpOp_of_list' rfl ?_
  go_wp2_with (go_at_call 51; refine (valid_any W.heap.size _ _ _ q19 (Nat.le_refl _)).mono ?_; rintro e W2 ⟨rfl, hb⟩; rw [hd_sig])
  exact hK _ _ rfl hb

set_option maxRecDepth 100000 in
set_option maxHeartbeats 1000000 in
theorem h14_21 {F : Fr14} {W : World} (Ok : Nat → Prop) (_ : ∀ b, W.heap.size ≤ b → Ok b) (K : Act → World → Prop) (Q : Exit → Act → World → Prop) {x0 x1 x2 x3 x4 x5 x6 x7 x8 x9 x10 x11 x12 x13 x14 x15 x16 x17 x18 x19 x20 x21 x22 : Value} (q17 : (Fs14 17).holds Ok x17 W) (q20 : (Fs14 20).holds Ok x20 W)
    (hK : ∀ v w', (Fs14 21).holds Ok v w' → Below W.heap.size W w' → K (fr14 F x0 x1 x2 x3 x4 x5 x6 x7 x8 x9 x10 x11 x12 x13 x14 x15 x16 x17 x18 x19 x20 v x22) w') :
    wpOp Tryz.prog (opsAt Tryz.f12 14) Q 21 K (fr14 F x0 x1 x2 x3 x4 x5 x6 x7 x8 x9 x10 x11 x12 x13 x14 x15 x16 x17 x18 x19 x20 x21 x22) W := by
  obtain rfl : x17 = .bool true := q17
  obtain rfl : x20 = .bool true := q20
  unfold fr14 opsAt Tryz.f12
  simp only [findRegion, Nat.reduceBEq, if_true, if_false, Bool.false_eq_true, Option.getD_some]
  refine wpOp_of_list' rfl ?_
  go_wp2_with fail
  exact hK _ _ rfl (Below.refl _ _)

set_option maxRecDepth 100000 in
set_option maxHeartbeats 1000000 in
theorem h14_22 {F : Fr14} {W : World} (Ok : Nat → Prop) (_ : ∀ b, W.heap.size ≤ b → Ok b) (K : Act → World → Prop) (Q : Exit → Act → World → Prop) {x0 x1 x2 x3 x4 x5 x6 x7 x8 x9 x10 x11 x12 x13 x14 x15 x16 x17 x18 x19 x20 x21 x22 : Value} (q21 : (Fs14 21).holds Ok x21 W)
    (hK : ∀ v w', (Fs14 22).holds Ok v w' → Below W.heap.size W w' → K (fr14 F x0 x1 x2 x3 x4 x5 x6 x7 x8 x9 x10 x11 x12 x13 x14 x15 x16 x17 x18 x19 x20 x21 v) w') :
    wpOp Tryz.prog (opsAt Tryz.f12 14) Q 22 K (fr14 F x0 x1 x2 x3 x4 x5 x6 x7 x8 x9 x10 x11 x12 x13 x14 x15 x16 x17 x18 x19 x20 x21 x22) W := by
  obtain rfl : x21 = .bool true := q21
  unfold fr14 opsAt Tryz.f12
  simp only [findRegion, Nat.reduceBEq, if_true, if_false, Bool.false_eq_true, Option.getD_some]
  refine wpOp_of_list' rfl ?_
  go_wp2_with fail
  exact hK _ _ rfl (Below.refl _ _)

end Go.Proofs.YtbnnjbfbifihaaaGreatDoor

/-
  The drawn region of the law's head: 14.
-/
namespace Go.Proofs.YtbnnjbfbifihaaaGreatDoor
open Go.RowKit

set_option maxRecDepth 100000 in
set_option maxHeartbeats 4000000 in
theorem head_r14 {k1 k2 k3 k5 k12 k13 k14 k16 : Nat} {k7 k9 p18 p19 p20 p21 p22 p23 p24 p25 p26 p27 p28 p29 p30 p31 p32 p33 p34 p35 p36 p37 p38 p39 p40 p41 p42 p43 p44 p45 p46 p47 p48 p49 p50 p51 p52 p53 p54 p55 p56 p57 p58 p59 p60 p61 p62 p63 p64 p65 p66 p67 p68 p69 p70 p71 p72 p73 p74 p75 p76 p77 p78 p79 p80 p81 p82 p83 p84 p85 p86 p87 p88 p89 p90 p91 p92 p93 p94 p95 p96 p97 p98 p99 p100 p101 p102 p103 p104 p105 p106 p107 p108 p109 p110 p111 p112 p113 p114 p115 p116 p117 p118 p119 p120 p121 p122 p123 p124 p125 p126 p127 p128 p129 p130 p131 p132 p133 p134 p135 p136 p137 p138 p139 p140 p141 p142 p143 p144 p145 p146 p147 p148 p149 p150 p151 p152 p153 p154 p155 p156 p157 p158 p159 p160 p161 : Value} (W0 : World) (Q : Exit → Act → World → Prop) {o1 o2 o3 o5 o12 o13 o14 o16 : Option Addr} {c1 c2 c3 c5 c12 c13 c14 c16 : Nat} (B1 : Hid (BoxF W0.heap.size W0 k1 hA o1 c1)) (B2 : Hid (BoxF W0.heap.size W0 k2 hB o2 c2)) (_ : Hid (BoxF W0.heap.size W0 k3 hX o3 c3)) (_ : Hid (BoxF W0.heap.size W0 k5 hY o5 c5)) (_ : Hid (BoxF W0.heap.size W0 k12 hAB o12 c12)) (_ : Hid (BoxF W0.heap.size W0 k13 fTrue o13 c13)) (_ : Hid (BoxF W0.heap.size W0 k14 hN o14 c14)) (_ : Hid (BoxF W0.heap.size W0 k16 hP o16 c16)) (hE : Env W0)
    (hend : ∀ (x : Nat → Value) (W : World), Below W0.heap.size W0 W → x 22 = .bool true → Q .normal { tmps := #[x 22, .pointer (some ⟨k1, 0, none⟩), .pointer (some ⟨k2, 0, none⟩), .pointer (some ⟨k3, 0, none⟩), .int .i64 0, .pointer (some ⟨k5, 0, none⟩), .int .i64 0, k7, .int .i64 30, k9, .int .i64 2, .bool true, .pointer (some ⟨k12, 0, none⟩), .pointer (some ⟨k13, 0, none⟩), .pointer (some ⟨k14, 0, none⟩), .bool true, .pointer (some ⟨k16, 0, none⟩), .bool true, p18, p19, p20, p21, p22, p23, p24, p25, p26, p27, p28, p29, p30, p31, p32, p33, p34, p35, p36, p37, p38, p39, p40, p41, p42, p43, p44, p45, p46, p47, p48, p49, p50, p51, p52, p53, p54, p55, p56, p57, p58, p59, p60, p61, p62, p63, p64, p65, p66, p67, p68, p69, p70, p71, p72, p73, p74, p75, p76, p77, p78, p79, p80, p81, p82, p83, p84, p85, p86, p87, p88, p89, p90, p91, p92, p93, p94, p95, p96, p97, p98, p99, p100, p101, p102, p103, p104, p105, p106, p107, p108, p109, p110, p111, p112, p113, p114, p115, p116, p117, p118, p119, p120, p121, p122, p123, p124, p125, p126, p127, p128, p129, p130, p131, p132, p133, p134, p135, p136, p137, p138, p139, p140, p141, p142, p143, p144, p145, p146, p147, p148, p149, p150, p151, p152, p153, p154, p155, p156, p157, p158, p159, p160, p161, x 0, x 1, x 2, x 3, x 4, x 5, x 6, x 7, x 8, x 9, x 10, x 11, x 12, x 13, x 14, x 15, x 16, x 17, x 18, x 19, x 20, x 21], defers := [] } W) :
    (Code.region 14 (opsAt Tryz.f12 14) true).wp Tryz.prog Q { tmps := #[.bool false, .pointer (some ⟨k1, 0, none⟩), .pointer (some ⟨k2, 0, none⟩), .pointer (some ⟨k3, 0, none⟩), .int .i64 0, .pointer (some ⟨k5, 0, none⟩), .int .i64 0, k7, .int .i64 30, k9, .int .i64 2, .bool true, .pointer (some ⟨k12, 0, none⟩), .pointer (some ⟨k13, 0, none⟩), .pointer (some ⟨k14, 0, none⟩), .bool true, .pointer (some ⟨k16, 0, none⟩), .bool true, p18, p19, p20, p21, p22, p23, p24, p25, p26, p27, p28, p29, p30, p31, p32, p33, p34, p35, p36, p37, p38, p39, p40, p41, p42, p43, p44, p45, p46, p47, p48, p49, p50, p51, p52, p53, p54, p55, p56, p57, p58, p59, p60, p61, p62, p63, p64, p65, p66, p67, p68, p69, p70, p71, p72, p73, p74, p75, p76, p77, p78, p79, p80, p81, p82, p83, p84, p85, p86, p87, p88, p89, p90, p91, p92, p93, p94, p95, p96, p97, p98, p99, p100, p101, p102, p103, p104, p105, p106, p107, p108, p109, p110, p111, p112, p113, p114, p115, p116, p117, p118, p119, p120, p121, p122, p123, p124, p125, p126, p127, p128, p129, p130, p131, p132, p133, p134, p135, p136, p137, p138, p139, p140, p141, p142, p143, p144, p145, p146, p147, p148, p149, p150, p151, p152, p153, p154, p155, p156, p157, p158, p159, p160, p161, undef, undef, undef, undef, undef, undef, undef, undef, undef, undef, undef, undef, undef, undef, undef, undef, undef, undef, undef, undef, undef, undef], defers := [] } W0 := by
  have hsz : (opsAt Tryz.f12 14).size = 23 := by kernel_rfl
  refine wp_region_fq (by kernel_rfl) (by kernel_rfl) Fs14 (fun x => fr14 ⟨k1, k2, k3, k5, k12, k13, k14, k16, k7, k9, p18, p19, p20, p21, p22, p23, p24, p25, p26, p27, p28, p29, p30, p31, p32, p33, p34, p35, p36, p37, p38, p39, p40, p41, p42, p43, p44, p45, p46, p47, p48, p49, p50, p51, p52, p53, p54, p55, p56, p57, p58, p59, p60, p61, p62, p63, p64, p65, p66, p67, p68, p69, p70, p71, p72, p73, p74, p75, p76, p77, p78, p79, p80, p81, p82, p83, p84, p85, p86, p87, p88, p89, p90, p91, p92, p93, p94, p95, p96, p97, p98, p99, p100, p101, p102, p103, p104, p105, p106, p107, p108, p109, p110, p111, p112, p113, p114, p115, p116, p117, p118, p119, p120, p121, p122, p123, p124, p125, p126, p127, p128, p129, p130, p131, p132, p133, p134, p135, p136, p137, p138, p139, p140, p141, p142, p143, p144, p145, p146, p147, p148, p149, p150, p151, p152, p153, p154, p155, p156, p157, p158, p159, p160, p161⟩ (x 0) (x 1) (x 2) (x 3) (x 4) (x 5) (x 6) (x 7) (x 8) (x 9) (x 10) (x 11) (x 12) (x 13) (x 14) (x 15) (x 16) (x 17) (x 18) (x 19) (x 20) (x 21) (x 22)) (fun k => if k = 22 then .bool false else undef) ?_ ?_
  · intro i x W K hi hS hd hK
    match i, hi, hd, hK with
    | 0, _, hd, hK => exact h14_0 (fun _ => True) (fun _ _ => trivial) K Q (fun v w' h hB => hK v w' h hB)
    | 1, _, hd, hK => exact h14_1 (fun _ => True) (fun _ _ => trivial) K Q (hd 0 (by kernel_rfl)) (fun v w' h hB => hK v w' h hB)
    | 2, _, hd, hK => exact h14_2 (fun _ => True) (fun _ _ => trivial) K Q (hd 1 (by kernel_rfl)) (fun v w' h hB => hK v w' h hB)
    | 3, _, hd, hK => exact h14_3 (fun _ => True) (fun _ _ => trivial) K Q (hd 1 (by kernel_rfl)) (hd 2 (by kernel_rfl)) (fun v w' h hB => hK v w' h hB)
    | 4, _, hd, hK => exact h14_4 (fun _ => True) (fun _ _ => trivial) K Q (hd 3 (by kernel_rfl)) (fun v w' h hB => hK v w' h hB)
    | 5, _, hd, hK => exact h14_5 (fun _ => True) (fun _ _ => trivial) K Q (hd 4 (by kernel_rfl)) (fun v w' h hB => hK v w' h hB)
    | 6, _, hd, hK => exact h14_6 (fun _ => True) (fun _ _ => trivial) K Q (hd 4 (by kernel_rfl)) (hd 5 (by kernel_rfl)) (fun v w' h hB => hK v w' h hB)
    | 7, _, hd, hK => exact h14_7 (fun _ => True) (fun _ _ => trivial) K Q (hd 6 (by kernel_rfl)) (fun v w' h hB => hK v w' h hB)
    | 8, _, hd, hK => exact h14_8 (fun _ => True) (fun _ _ => trivial) K Q (hidi (B2.out.next (Nat.le_refl _) hS)) (fun b hb => ⟨Nat.lt_of_lt_of_le hb hS.size, trivial⟩) (hd 7 (by kernel_rfl)) (fun v w' h hB => hK v w' h hB)
    | 9, _, hd, hK => exact h14_9 (fun _ => True) (fun _ _ => trivial) K Q (hidi (B1.out.next (Nat.le_refl _) hS)) (fun b hb => ⟨Nat.lt_of_lt_of_le hb hS.size, trivial⟩) (hd 7 (by kernel_rfl)) (fun v w' h hB => hK v w' h hB)
    | 10, _, hd, hK => exact h14_10 (fun _ => True) (fun _ _ => trivial) K Q (hidi (B2.out.next (Nat.le_refl _) hS)) (fun b hb => ⟨Nat.lt_of_lt_of_le hb hS.size, trivial⟩) (hd 7 (by kernel_rfl)) (fun v w' h hB => hK v w' h hB)
    | 11, _, hd, hK => exact h14_11 (fun _ => True) (fun _ _ => trivial) K Q (hd 7 (by kernel_rfl)) (hd 9 (by kernel_rfl)) (hd 10 (by kernel_rfl)) (fun v w' h hB => hK v w' h hB)
    | 12, _, hd, hK => exact h14_12 (fun _ => True) (fun _ _ => trivial) K Q (hd 7 (by kernel_rfl)) (hd 8 (by kernel_rfl)) (hd 11 (by kernel_rfl)) (fun v w' h hB => hK v w' h hB)
    | 13, _, hd, hK => exact h14_13 (fun _ => True) (fun _ _ => trivial) (hE.below hS) K Q (hd 7 (by kernel_rfl)) (hd 12 (by kernel_rfl)) (fun v w' h hB => hK v w' h hB)
    | 14, _, hd, hK => exact h14_14 (fun _ => True) (fun _ _ => trivial) K Q (hd 7 (by kernel_rfl)) (fun v w' h hB => hK v w' h hB)
    | 15, _, hd, hK => exact h14_15 (fun _ => True) (fun _ _ => trivial) K Q (hd 7 (by kernel_rfl)) (hd 13 (by kernel_rfl)) (hd 14 (by kernel_rfl)) (fun v w' h hB => hK v w' h hB)
    | 16, _, hd, hK => exact h14_16 (fun _ => True) (fun _ _ => trivial) K Q (hd 7 (by kernel_rfl)) (hd 15 (by kernel_rfl)) (fun v w' h hB => hK v w' h hB)
    | 17, _, hd, hK => exact h14_17 (fun _ => True) (fun _ _ => trivial) K Q (hd 16 (by kernel_rfl)) (fun v w' h hB => hK v w' h hB)
    | 18, _, hd, hK => exact h14_18 (fun _ => True) (fun _ _ => trivial) K Q (hd 17 (by kernel_rfl)) (fun v w' h hB => hK v w' h hB)
    | 19, _, hd, hK => exact h14_19 (fun _ => True) (fun _ _ => trivial) K Q (hd 17 (by kernel_rfl)) (hd 18 (by kernel_rfl)) (fun v w' h hB => hK v w' h hB)
    | 20, _, hd, hK => exact h14_20 (fun _ => True) (fun _ _ => trivial) K Q (hd 17 (by kernel_rfl)) (hd 19 (by kernel_rfl)) (fun v w' h hB => hK v w' h hB)
    | 21, _, hd, hK => exact h14_21 (fun _ => True) (fun _ _ => trivial) K Q (hd 17 (by kernel_rfl)) (hd 20 (by kernel_rfl)) (fun v w' h hB => hK v w' h hB)
    | 22, _, hd, hK => exact h14_22 (fun _ => True) (fun _ _ => trivial) K Q (hd 21 (by kernel_rfl)) (fun v w' h hB => hK v w' h hB)
    | n + 23, hi, _, _ => exact absurd hi (by have h : (opsAt Tryz.f12 14).size = 23 := (by kernel_rfl); omega)
  · intro x W hS hf
    exact hend x W hS (hf 22 (by rw [hsz]; decide))

end Go.Proofs.YtbnnjbfbifihaaaGreatDoor
