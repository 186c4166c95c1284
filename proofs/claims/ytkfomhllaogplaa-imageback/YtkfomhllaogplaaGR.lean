/-
  Layer 7's fixed calls: they answer as the document fixes.
-/
import Derived.Test.YtkfomhllaogplaaGQ
import Derived.Test.YtkfomhllaogplaaET
import Derived.Deep.CutRange
namespace Go.Proofs.Ytkfomhllaogplaa
open Go.RowKit El Go.Lib
open Classical
set_option linter.unusedSimpArgs false
set_option linter.unusedVariables false

structure FixI (w : World) (b1 : Nat) (p1 : Option Addr) (c1 : Nat) (W : World) : Prop where
  ib : W.heap[b1]? = some (.cells #[.int .u32 4096, .int .u32 4096, .slice p1 1 c1, .int .i64 1] 29 (0, 0))
  lw : SlW W (.slice p1 1 c1) [19]
  low : Below w.heap.size w W
theorem FixI.below {w W W' : World} {b1 : Nat} {p1 : Option Addr} {c1 : Nat} (h : FixI w b1 p1 c1 W) (hb : Below W.heap.size W W') : FixI w b1 p1 c1 W' := ⟨keptN hb h.ib, h.lw.below hb, h.low.trans (hb.mono h.low.size)⟩
structure FixY (w : World) (b1 : Nat) (p1 : Option Addr) (c1 b3 : Nat) (p3 : Option Addr) (c3 : Nat) (W : World) : Prop where
  at' : FixI w b1 p1 c1 W
  yb : W.heap[b3]? = some (.cells #[.int .u32 4096, .int .u32 0, .slice p3 2 c3] 25 (0, 0))
  ys : SlS W (.slice p3 2 c3) [g0, g1']
theorem FixY.below {w W W' : World} {b1 : Nat} {p1 : Option Addr} {c1 b3 : Nat} {p3 : Option Addr} {c3 : Nat} (h : FixY w b1 p1 c1 b3 p3 c3 W) (hb : Below W.heap.size W W') : FixY w b1 p1 c1 b3 p3 c3 W' := ⟨h.at'.below hb, keptN hb h.yb, h.ys.below hb⟩
structure FixF (x4 u5 : World) (E : Int) (q : Option Addr) (d : Nat) (W : World) : Prop where
  low4 : Below x4.heap.size x4 W
  low5 : Below u5.heap.size u5 W
  fb : W.heap[u5.heap.size]? = some (.cells #[.int .u32 E, .int .u32 0, .slice q 2 d] 25 (0, 0))
theorem slw_one (W : World) (n : Nat) : SlW (W.alloc (.cells #[.int .u32 (n : Int)] 22)) (.slice (some ⟨W.heap.size, 0, none⟩) 1 1) [n] := by
  refine .inr ⟨W.heap.size, 0, 1, rfl, by simp, by simp, fun j m hj => ?_⟩
  match j, hj with
  | 0, hj =>
    simp at hj; subst hj
    exact Go.cell_one_new W _ _ 0 _ rfl
set_option maxRecDepth 100000 in
set_option maxHeartbeats 8000000 in
theorem fixed7_any (w : World) : Calls Try.prog 15 #[] w fun e w' => e = .returned (.bool true) ∧ Below w.heap.size w w' := by
  go_enter Try.func15, Try.ntmps15
  go_wp2_with fail
  refine (one7_any _).mono ?_
  rintro e u1 ⟨q1, d1, rfl, hs1, hu1⟩
  have S1 := hideE hs1
  have N1 := hideE hu1
  clear hs1 hu1
  go_wp2_with fail
  refine (of7_any q1 d1 _ S1.out).mono ?_
  rintro e w1 ⟨p1, c1, rfl, hl1, hb1⟩
  have F1 : Hid (FixI w w1.heap.size p1 c1 ((w1.alloc (.cells Z4 29)).setRow w1.heap.size #[.int .u32 4096, .int .u32 4096, .slice p1 1 c1, .int .i64 1])) :=
    ⟨setRow_heap _ _ _ _ _ _ (heap_alloc_new w1 _), hl1.below (below_setRowE ((Below.refl _ w1).alloc (Nat.le_refl _) _) (Nat.le_refl _) _), (N1.out.trans (hb1.mono N1.out.size)).trans (Below.mono (below_setRowE ((Below.refl _ w1).alloc (Nat.le_refl _) _) (Nat.le_refl _) _) (Nat.le_trans N1.out.size hb1.size))⟩
  clear hl1 hb1 S1 N1
  go_upto_region 2 with (first | (refine wpList_store_row rfl 29 _ _ rfl (w1.heap.size) _ rfl rfl _ Z4 (heap_alloc_new w1 _) (by kernel_rfl) rfl (by kernel_rfl) ?_))
  refine gen_world _ F1.out ?_
  intro x1 k1
  generalize w1.heap.size = b1 at *
  have K1 := hideE k1
  clear F1 k1
  go_wp2_with fail
  refine (one7_any _).mono ?_
  rintro e u2 ⟨q2, d2, rfl, hs2, hu2⟩
  have S2 := hideE (hs2.below ((Below.refl _ u2).alloc (Nat.le_refl _) (.cells #[.int .u32 115] 22)))
  have N2 := hideE ((K1.out.below hu2).below ((Below.refl _ u2).alloc (Nat.le_refl _) (.cells #[.int .u32 115] 22)))
  clear hs2 hu2
  go_wp2_with fail
  refine (with7_any q2 _ d2 1 _ S2.out (slw_one u2 115)).mono ?_
  rintro e w2 ⟨p3, c3, rfl, hs3, hb2⟩
  have F2 : Hid (FixY w b1 p1 c1 w2.heap.size p3 c3 ((w2.alloc (.cells Z3 25)).setRow w2.heap.size #[.int .u32 4096, .int .u32 0, .slice p3 2 c3])) :=
    ⟨(N2.out.below hb2).below (below_setRowE ((Below.refl _ w2).alloc (Nat.le_refl _) _) (Nat.le_refl _) _), setRow_heap _ _ _ _ _ _ (heap_alloc_new w2 _), hs3.below (below_setRowE ((Below.refl _ w2).alloc (Nat.le_refl _) _) (Nat.le_refl _) _)⟩
  clear hs3 hb2 S2 N2
  go_upto_region 3 with (first | (refine wpList_store_row rfl 25 _ _ rfl (w2.heap.size) _ rfl rfl _ Z3 (heap_alloc_new w2 _) (by kernel_rfl) rfl (by kernel_rfl) ?_))
  refine gen_world _ F2.out ?_
  intro x2 k2
  generalize w2.heap.size = b3 at *
  have K2 := hideE k2
  clear F2 k2
  go_wp2_with fail
  refine (one7_any _).mono ?_
  rintro e u3 ⟨q3, d3, rfl, hs3, hu3⟩
  have S3 := hideE hs3
  have N3 := hideE (K2.out.below hu3)
  clear hs3 hu3
  go_wp2_with fail
  refine (with70_any q3 d3 _ S3.out).mono ?_
  rintro e w3 ⟨v3, rfl, ⟨r3, e3, rfl⟩, hb3⟩
  have F3 : Hid (FixY w b1 p1 c1 b3 p3 c3 ((w3.alloc (.cells Z3 25)).setRow w3.heap.size #[.int .u32 0, .int .u32 0, .slice r3 0 e3])) := (N3.out.below hb3).below (below_setRowE ((Below.refl _ w3).alloc (Nat.le_refl _) _) (Nat.le_refl _) _)
  clear hb3 S3 N3
  go_upto_region 4 with (first | (refine wpList_store_row rfl 25 _ _ rfl (w3.heap.size) _ rfl rfl _ Z3 (heap_alloc_new w3 _) (by kernel_rfl) rfl (by kernel_rfl) ?_))
  refine gen_world _ F3.out ?_
  intro x3 k3
  have K3 := hideE k3
  clear F3 k3
  go_wp2_with fail
  refine (nil7_any _).mono ?_
  rintro e w4 ⟨v4, rfl, ⟨r4, e4, rfl⟩, hb4⟩
  have F4 : Hid (FixY w b1 p1 c1 b3 p3 c3 ((w4.alloc (.cells Z4 29)).setRow w4.heap.size #[.int .u32 0, .int .u32 0, .slice r4 0 e4, .int .i64 0])) := (K3.out.below hb4).below (below_setRowE ((Below.refl _ w4).alloc (Nat.le_refl _) _) (Nat.le_refl _) _)
  clear hb4
  go_upto_region 5 with (first | (refine wpList_store_row rfl 29 _ _ rfl (w4.heap.size) _ rfl rfl _ Z4 (heap_alloc_new w4 _) (by kernel_rfl) rfl (by kernel_rfl) ?_))
  refine gen_world _ F4.out ?_
  intro x4 k4
  have K4 := hideE k4
  clear F4 k4
  go_wp2_with fail
  refine (one7_any _).mono ?_
  rintro e u5 ⟨q5, d5, rfl, hs5, hu5⟩
  have hl45 : Below x4.heap.size x4 ((u5.alloc (.cells Z3 25)).setRow u5.heap.size #[.int .u32 4096, .int .u32 0, .slice q5 2 d5]) := hu5.trans (Below.mono (below_setRowE ((Below.refl _ u5).alloc (Nat.le_refl _) _) (Nat.le_refl _) _) hu5.size)
  have S5 : Hid (FixF x4 u5 4096 q5 d5 ((u5.alloc (.cells Z3 25)).setRow u5.heap.size #[.int .u32 4096, .int .u32 0, .slice q5 2 d5])) :=
    ⟨hl45, (below_setRowE ((Below.refl _ u5).alloc (Nat.le_refl _) _) (Nat.le_refl _) _), setRow_heap _ _ _ _ _ _ (heap_alloc_new u5 _)⟩
  have B5 := hideE hu5.size
  have T5 := hideE hs5
  clear hs5 hu5 hl45
  go_upto_region 6 with (first | (refine wpList_store_row rfl 25 _ _ rfl (u5.heap.size) _ rfl rfl _ Z3 (heap_alloc_new u5 _) (by kernel_rfl) rfl (by kernel_rfl) ?_))
  refine gen_world _ S5.out ?_
  intro x5 k5
  have K5 := hideE k5
  obtain ⟨⟨a0, a1, a2⟩, f0, f1, f2⟩ := three k5.fb
  have S6 : Hid (FixF x4 u5 4100 q5 d5 (x5.setCell ⟨u5.heap.size, 0, none⟩ (.int .u32 4100))) :=
    ⟨k5.low4.setCell (p := ⟨u5.heap.size, 0, none⟩) B5.out _, k5.low5.setCell (p := ⟨u5.heap.size, 0, none⟩) (Nat.le_refl _) _, by simp [World.setCell, Array.getElem?_modify, k5.fb]⟩
  clear S5 k5 K5
  go_upto_region 7 with (fail)
  refine gen_world _ S6.out ?_
  intro x6 k6
  clear S6 a0 a1 a2 f0 f1 f2
  have K6 := hideE k6
  obtain ⟨⟨a0, a1, a2⟩, _⟩ := three k6.fb
  clear k6
  go_wp2_with fail
  refine (far7_any q5 d5 _ (T5.out.below K6.out.low5)).mono ?_
  rintro e w7 ⟨v7, rfl, ⟨r7, e7, rfl⟩, hb7⟩
  have F7 : Hid (FixY w b1 p1 c1 b3 p3 c3 ((w7.alloc (.cells Z4 29)).setRow w7.heap.size #[.int .u32 0, .int .u32 0, .slice r7 0 e7, .int .i64 0])) := ((K4.out.below K6.out.low4).below hb7).below (below_setRowE ((Below.refl _ w7).alloc (Nat.le_refl _) _) (Nat.le_refl _) _)
  clear hb7 a0 a1 a2 K6 T5 B5 K4
  go_upto_region 8 with (first | (refine wpList_store_row rfl 29 _ _ rfl (w7.heap.size) _ rfl rfl _ Z4 (heap_alloc_new w7 _) (by kernel_rfl) rfl (by kernel_rfl) ?_))
  refine gen_world _ F7.out ?_
  intro x7 k7
  have K7 := hideE k7
  obtain ⟨⟨i0, i1, i2, i3⟩, _⟩ := four k7.at'.ib
  clear F7 k7
  go_wp2_with fail
  refine (at7_any p1 c1 _ K7.out.at'.lw).mono ?_
  rintro e w8 ⟨rfl, hb8⟩
  have K8 := hideE (K7.out.below hb8)
  clear hb8 i0 i1 i2 i3 K7
  obtain ⟨⟨i0, i1, i2, i3⟩, _⟩ := four K8.out.at'.ib
  go_wp2_with fail
  refine (at7_no p1 c1 _ K8.out.at'.lw).mono ?_
  rintro e w9 ⟨rfl, hb9⟩
  have K9 := hideE (K8.out.below hb9)
  clear hb9 i0 i1 i2 i3 K8
  go_wp2_with fail
  refine (one7_any _).mono ?_
  rintro e u10 ⟨q10, d10, rfl, hs10, hu10⟩
  have S10 := hideE hs10
  have K10 := hideE (K9.out.below hu10)
  clear hs10 hu10 K9
  go_wp2_with fail
  refine (load7_any q10 d10 _ S10.out).mono ?_
  rintro e w11 ⟨pb, bm, rfl, hm, _, _, hb11⟩
  have K11 := hideE (K10.out.below hb11)
  have M11 := hideE hm
  clear hb11 hm S10 K10
  obtain ⟨⟨i0, i1, i2, i3⟩, _⟩ := four K11.out.at'.ib
  go_wp2_with fail
  refine (same7_any p1 _ c1 1 _ (K11.out.at'.lw.alloc _) (slw_one w11 19)).mono ?_
  rintro e w12 ⟨rfl, hb12⟩
  have hal : Below w11.heap.size w11 w12 := ((Below.refl _ w11).alloc (Nat.le_refl _) _).trans (hb12.mono (by simp))
  have K12 := hideE (K11.out.below hal)
  have M12 := hideE (M11.out.below hal)
  clear hal hb12 i0 i1 i2 i3 K11 M11
  have hys := K12.out.ys
  obtain ⟨g3, o3, rfl⟩ := sls_some (l := [g0, g1']) hys (by decide)
  obtain ⟨_, z1, _⟩ := SlS.at (slsCells (l := [g0, g1']) hys (by decide)).1 1 g1' rfl
  obtain ⟨⟨y0, y1, y2⟩, _⟩ := three K12.out.yb
  clear hys
  go_wp2_with fail
  refine (cells_any _ M12.out).mono ?_
  rintro e w13 ⟨v13, rfl, ho13, hb13⟩
  obtain ⟨p13, c13, rfl⟩ := own_slice' ho13
  have H13 := hideE ho13
  have K13 := hideE (K12.out.at'.low.trans (hb13.mono K12.out.at'.low.size))
  clear ho13 hb13 K12 M12 z1 y0 y1 y2
  go_wp2_with fail
  refine (same_yes (base' := w13.heap.size) _ (H13.out.alloc _) ⟨rfl, .inr ⟨w13.heap.size, 1, #[.int .u32 4096, .int .u8 19], rfl, Nat.le_refl _, heap_alloc_new w13 _, Nat.le_refl _, by unfold maxLen; omega, rfl, rfl⟩⟩ (by decide)).mono ?_
  rintro e w14 ⟨rfl, n, rfl⟩
  go_wp2_with fail
  go_ret
  exact ⟨rfl, (K13.out.alloc K13.out.size _).trans ((drew_low _ _ _).mono (by have := K13.out.size; simp; omega))⟩
end Go.Proofs.Ytkfomhllaogplaa
