/-
  The calls whose answers the document fixes (layer 4): fixed answers true.
-/
import Derived.Great.BuildSlice
import Derived.Test.YtilphdfobflbiaaGreatZn
import Derived.Test.YtilphdfobflbiaaGreatZo
namespace Go.Proofs.YtilphdfobflbiaaGreat
open Go.RowKit Go.Maps Cp Ip Mm
set_option linter.unusedSimpArgs false

def fL : Cs := [(0, 147), (2, 80), (4, 115)]
theorem f_sto : sto (sto [] 0 5243027 (Int.toNat 4)) 4 115 (Int.toNat 4) = fL := by decide +kernel
theorem out_is (o : Out) (e : Int) (l : Cs) (he : o.e = e) (hl : o.l = l) : o = ⟨o.c, e, l⟩ := by cases o; simp_all
theorem f_1e : (stepM nought fL).e = 0 := by decide +kernel
theorem f_1l : (stepM nought fL).l = fL := by decide +kernel
theorem f_2e : (stepM (stepM nought fL).c fL).e = 1 := by decide +kernel
theorem f_2l : (stepM (stepM nought fL).c fL).l = fL := by decide +kernel
theorem f_3e : (stepM (stepM (stepM nought fL).c fL).c fL).e = 3 := by decide +kernel
theorem f_3l : (stepM (stepM (stepM nought fL).c fL).c fL).l = fL := by decide +kernel
theorem f_4e : (stepM (sp nought (BitVec.ofNat 32 2)) fL).e = 4 := by decide +kernel
theorem f_4l : (stepM (sp nought (BitVec.ofNat 32 2)) fL).l = fL := by decide +kernel
/-- What they come to. -/
structure Fx (c1 c2 c3 c4 x y : Mach) (r : Res) : Prop where
  s1 : stepM nought fL = ⟨c1, 0, fL⟩
  s2 : stepM c1 fL = ⟨c2, 1, fL⟩
  s3 : stepM c2 fL = ⟨c3, 3, fL⟩
  s4 : stepM (sp nought (BitVec.ofNat 32 2)) fL = ⟨c4, 4, fL⟩
  d1 : doesM (sp nought (BitVec.ofNat 32 8)) 1 1 0 0 1 = x
  d2 : doesM nought 2 0 0 0 0 = y
  b1 : doesB 1 1 0 0 1 = true
  b2 : doesB 2 0 0 0 0 = false
  rr : runM 9 (zr nought) fL [(BitVec.ofNat 32 7)] = r
  v1 : c1.x 1 = (BitVec.ofNat 32 5)
  v2 : c1.pc = (BitVec.ofNat 32 4)
  v3 : c2.pc = (BitVec.ofNat 32 8)
  v4 : x.x 1 = (BitVec.ofNat 32 4104)
  v5 : x.pc = (BitVec.ofNat 32 12)
  v6 : r.c.x 10 = (BitVec.ofNat 32 7)
  v7 : r.calls.length = 1
  v8 : r.e = 3
  v9 : r.n = 3
theorem fx_all : ∃ c1 c2 c3 c4 x y r, Fx c1 c2 c3 c4 x y r :=
  ⟨(stepM nought fL).c, (stepM (stepM nought fL).c fL).c, (stepM (stepM (stepM nought fL).c fL).c fL).c, (stepM (sp nought (BitVec.ofNat 32 2)) fL).c, _, _, _,
    out_is _ _ _ f_1e f_1l, out_is _ _ _ f_2e f_2l, out_is _ _ _ f_3e f_3l, out_is _ _ _ f_4e f_4l, rfl, rfl, by decide +kernel, by decide +kernel, rfl,
    by decide +kernel, by decide +kernel, by decide +kernel, by decide +kernel, by decide +kernel, by decide +kernel, by decide +kernel, by decide +kernel, by decide +kernel⟩
theorem step_to {pb bm : Nat} {l l' : Cs} {c d : Mach} {e : Int} (h : stepM c l = ⟨d, e, l'⟩) (w : World) (hm : MemAt w pb bm l) :
    Calls Tryz.prog 6 #[.agg (cells c), .pointer (some ⟨pb, 0, none⟩)] w fun en w' => en = .returned (.tuple #[.agg (cells d), .int .i64 e]) ∧ MemAt w' pb bm l' ∧ w.grownBy w' (some bm) := by
  have := step_any c w hm
  rw [h] at this
  exact this
theorem does_to {c d : Mach} {b : Bool} {op rd rs1 rs2 imm : Int} (h : doesM c op rd rs1 rs2 imm = d) (hb : doesB op rd rs1 rs2 imm = b) (w : World) :
    Calls Tryz.prog 20 #[.agg (cells c), .agg #[.int .i64 op, .int .i64 rd, .int .i64 rs1, .int .i64 rs2, .int .i64 imm]] w fun e w' => e = .returned (.tuple #[.agg (cells d), .bool b]) ∧ Below w.heap.size w w' := by
  have := does_any4 c op rd rs1 rs2 imm w
  rw [h, hb] at this
  exact this
theorem run_to {pb bm : Nat} {l : Cs} {c : Mach} {r : Res} {zs : List (BitVec 32)} {av : Value} (h : runM 9 (zr c) l zs = r) (w : World) (hm : MemAt w pb bm l) (ha : AnsAt w av zs) :
    Calls Tryz.prog 11 #[.agg (cells c), .pointer (some ⟨pb, 0, none⟩), av, .int .i64 9] w fun e w' => ToldR w pb bm r e w' := by
  have := run_any c av zs 9 (by omega) w hm ha
  rw [show runM (9 : Int).toNat (zr c) l zs = r from h] at this
  exact this
theorem own_form {w : World} {B t k : Nat} {v : Value} {n : Nat} {xs : List Value} (h : w.ownsRow B t k v n xs) : ∃ ad cp, v = .slice ad n cp := by
  rcases h.2 with ⟨hx, h0⟩ | ⟨g, cap, cur, hx, _⟩
  · rw [h0]; exact ⟨_, _, hx⟩
  · exact ⟨_, _, hx⟩
theorem ans_seven (w : World) : AnsAt (w.alloc (.cells #[.int .u32 7] 22)) (.slice (some ⟨w.heap.size, 0, none⟩) 1 1) [(BitVec.ofNat 32 7)] := by
  refine ⟨_, _, rfl, by simp, fun i hi => ⟨_, _, rfl, ?_⟩⟩
  obtain rfl : i = 0 := by simp at hi; omega
  rw [cell_of_row _ _ _ _ _ _ (heap_alloc_new w _)]; rfl
/-- A machine that is told is laid into a new box. -/
theorem told_new {w W : World} {pb bm : Nat} {l : Cs} (hm : MemAt W pb bm l) (hb : Below w.heap.size w W) (d : Mach) :
    MemAt ((W.alloc (.cells (cells nought) 25)).setRow W.heap.size (cells d)) pb bm l
    ∧ Below w.heap.size w ((W.alloc (.cells (cells nought) 25)).setRow W.heap.size (cells d))
    ∧ BoxC ((W.alloc (.cells (cells nought) 25)).setRow W.heap.size (cells d)) W.heap.size d
    ∧ Below W.heap.size W ((W.alloc (.cells (cells nought) 25)).setRow W.heap.size (cells d)) := by
  have lo : Below W.heap.size W ((W.alloc (.cells (cells nought) 25)).setRow W.heap.size (cells d)) := below_row ((Below.refl _ _).alloc (Nat.le_refl _) _) (Nat.le_refl _) _
  exact ⟨hm.below lo, hb.trans (lo.mono hb.size), (Box.new W nought).setRow d, lo⟩
theorem told_box (W : World) : BoxC (W.alloc (.cells (cells nought) 25)) W.heap.size nought := Box.new W nought

set_option maxRecDepth 100000 in
set_option maxHeartbeats 8000000 in
theorem fixed4_any (w : World) : Calls Tryz.prog 10 #[] w fun e w' => e = .returned (.bool true) ∧ Below w.heap.size w w' := by
  have hz := zeroC
  obtain ⟨c1, c2, c3, c4, x, y, r, F⟩ := fx_all
  go_enter Tryz.func10, Tryz.ntmps10
  go_wp2_with fail
  refine (new_any w).mono ?_
  rintro e w1 ⟨rfl, hm1, hb1, hs1⟩
  go_wp2_with fail
  refine (store_any w1 hm1 (by omega) (Or.inr (Or.inr rfl)) (by omega)).mono ?_
  rintro e w2 ⟨rfl, hm2, hg2⟩
  have hb2 : Below w.heap.size w w2 := below_grown hb1 hg2 (Nat.le_refl _) hb1.size
  have hs2 := hg2.size
  clear hm1 hg2
  go_wp2_with fail
  refine (store_any w2 hm2 (by omega) (Or.inr (Or.inr rfl)) (by omega)).mono ?_
  rintro e w3 ⟨rfl, hm3, hg3⟩
  rw [f_sto] at hm3
  have hb3 : Below w.heap.size w w3 := below_grown hb2 hg3 (Nat.le_refl _) hb2.size
  have hs3 := hg3.size
  clear hm2 hg3
  -- the first step
  go_wp2_with (first | (refine wpList_buildTo rfl 25 _ rfl (some 26) rfl (cells (nought)) (by kernel_rfl) ?_))
  refine (step_to F.s1 w3 hm3).mono ?_
  rintro e w4 ⟨rfl, hm4, hg4⟩
  have hb4 : Below w.heap.size w w4 := below_grown hb3 hg4 (Nat.le_refl _) hb3.size
  have hs4 := hg4.size
  clear hm3 hg4
  obtain ⟨m5, b5, x5, n5⟩ := told_new hm4 hb4 c1
  clear hm4 hb4
  go_upto_region 7 with (first | (refine wpList_store_row rfl 25 _ _ rfl w4.heap.size _ rfl rfl _ _ (told_box w4) (infoCs _) (cells_same _ _) (cells_one _) ?_))
  generalize hw5 : (w4.alloc (.cells (cells nought) 25)).setRow w4.heap.size (cells c1) = w5 at m5 b5 x5 n5 ⊢
  clear hw5
  have hs5 := n5.size
  clear n5
  -- the second
  go_wp2_with (first | (refine wpList_load_row rfl 25 _ rfl w4.heap.size rfl _ _ _ _ x5 Tryz.underlying25 rfl (infoCs _) ?_))
  refine (step_to F.s2 w5 m5).mono ?_
  rintro e w6 ⟨rfl, hm6, hg6⟩
  have hb6 : Below w.heap.size w w6 := below_grown b5 hg6 (Nat.le_refl _) b5.size
  have x6 := Box.grown x5 hg6 (by omega)
  have hs6 := hg6.size
  clear m5 b5 x5 hg6
  obtain ⟨m7, b7, y7, n7⟩ := told_new hm6 hb6 c2
  have x7 := x6.below n7
  clear hm6 hb6 x6
  go_upto_region 8 with (first | (refine wpList_store_row rfl 25 _ _ rfl w6.heap.size _ rfl rfl _ _ (told_box w6) (infoCs _) (cells_same _ _) (cells_one _) ?_))
  generalize hw7 : (w6.alloc (.cells (cells nought) 25)).setRow w6.heap.size (cells c2) = w7 at m7 b7 x7 y7 n7 ⊢
  clear hw7
  have hs7 := n7.size
  clear n7
  -- the third
  go_wp2_with (first | (refine wpList_load_row rfl 25 _ rfl w6.heap.size rfl _ _ _ _ y7 Tryz.underlying25 rfl (infoCs _) ?_))
  refine (step_to F.s3 w7 m7).mono ?_
  rintro e w8 ⟨rfl, hm8, hg8⟩
  have hb8 : Below w.heap.size w w8 := below_grown b7 hg8 (Nat.le_refl _) b7.size
  have x8 := Box.grown x7 hg8 (by omega)
  have y8 := Box.grown y7 hg8 (by omega)
  have hs8 := hg8.size
  clear m7 b7 x7 y7 hg8
  obtain ⟨m9, b9, _, n9⟩ := told_new hm8 hb8 c3
  have x9 := x8.below n9
  have y9 := y8.below n9
  clear hm8 hb8 x8 y8
  go_upto_region 9 with (first | (refine wpList_store_row rfl 25 _ _ rfl w8.heap.size _ rfl rfl _ _ (told_box w8) (infoCs _) (cells_same _ _) (cells_one _) ?_))
  generalize hw9 : (w8.alloc (.cells (cells nought) 25)).setRow w8.heap.size (cells c3) = w9 at m9 b9 x9 y9 n9 ⊢
  clear hw9
  have hs9 := n9.size
  clear n9
  -- the fourth
  go_wp2_with (first | (refine wpList_buildTo rfl 25 _ rfl (some 44) rfl (cells (sp nought (BitVec.ofNat 32 2))) (by kernel_rfl) ?_))
  refine (step_to F.s4 w9 m9).mono ?_
  rintro e w10 ⟨rfl, hm10, hg10⟩
  have hb10 : Below w.heap.size w w10 := below_grown b9 hg10 (Nat.le_refl _) b9.size
  have x10 := Box.grown x9 hg10 (by omega)
  have y10 := Box.grown y9 hg10 (by omega)
  have hs10 := hg10.size
  clear m9 b9 x9 y9 hg10
  obtain ⟨m11, b11, z11, n11⟩ := told_new hm10 hb10 c4
  have x11 := x10.below n11
  have y11 := y10.below n11
  clear hm10 hb10 x10 y10 z11
  go_upto_region 10 with (first | (refine wpList_store_row rfl 25 _ _ rfl w10.heap.size _ rfl rfl _ _ (told_box w10) (infoCs _) (cells_same _ _) (cells_one _) ?_))
  generalize hw11 : (w10.alloc (.cells (cells nought) 25)).setRow w10.heap.size (cells c4) = w11 at m11 b11 x11 y11 n11 ⊢
  clear hw11
  have hs11 := n11.size
  clear n11
  -- Does, twice
  go_wp2_with (first | (refine wpList_buildTo rfl 25 _ rfl (some 50) rfl (cells (sp nought (BitVec.ofNat 32 8))) (by kernel_rfl) ?_) | (refine wpList_buildTo rfl 55 _ rfl (some 51) rfl (#[.int .i64 1, .int .i64 1, .int .i64 0, .int .i64 0, .int .i64 1]) (by kernel_rfl) ?_))
  refine (does_to F.d1 F.b1 w11).mono ?_
  rintro e w12 ⟨rfl, hb12⟩
  have m12 := m11.below hb12
  have b12 := b11.trans (hb12.mono b11.size)
  have x12 := x11.below hb12
  have y12 := y11.below hb12
  have hs12 := hb12.size
  clear m11 b11 x11 y11 hb12
  obtain ⟨m13, b13, z13, n13⟩ := told_new m12 b12 x
  have x13 := x12.below n13
  have y13 := y12.below n13
  clear m12 b12 x12 y12
  go_upto_region 11 with (first | (refine wpList_store_row rfl 25 _ _ rfl w12.heap.size _ rfl rfl _ _ (told_box w12) (infoCs _) (cells_same _ _) (cells_one _) ?_))
  generalize hw13 : (w12.alloc (.cells (cells nought) 25)).setRow w12.heap.size (cells x) = w13 at m13 b13 x13 y13 z13 n13 ⊢
  clear hw13
  have hs13 := n13.size
  clear n13
  go_wp2_with (first | (refine wpList_buildTo rfl 25 _ rfl (some 56) rfl (cells (nought)) (by kernel_rfl) ?_) | (refine wpList_buildTo rfl 55 _ rfl (some 57) rfl (#[.int .i64 2, .int .i64 0, .int .i64 0, .int .i64 0, .int .i64 0]) (by kernel_rfl) ?_))
  refine (does_to F.d2 F.b2 w13).mono ?_
  rintro e w14 ⟨rfl, hb14⟩
  have m14 := m13.below hb14
  have b14 := b13.trans (hb14.mono b13.size)
  have x14 := x13.below hb14
  have y14 := y13.below hb14
  have z14 := z13.below hb14
  have hs14 := hb14.size
  clear m13 b13 x13 y13 z13 hb14
  obtain ⟨m15, b15, u15, n15⟩ := told_new m14 b14 y
  have x15 := x14.below n15
  have y15 := y14.below n15
  have z15 := z14.below n15
  clear m14 b14 x14 y14 z14 u15
  go_upto_region 12 with (first | (refine wpList_store_row rfl 25 _ _ rfl w14.heap.size _ rfl rfl _ _ (told_box w14) (infoCs _) (cells_same _ _) (cells_one _) ?_))
  generalize hw15 : (w14.alloc (.cells (cells nought) 25)).setRow w14.heap.size (cells y) = w15 at m15 b15 x15 y15 z15 n15 ⊢
  clear hw15
  have hs15 := n15.size
  clear n15
  -- Run
  have n16 : Below w15.heap.size w15 (w15.alloc (.cells #[.int .u32 7] 22)) := (Below.refl _ _).alloc (Nat.le_refl _) _
  have m16 := m15.below n16
  have b16 := b15.trans (n16.mono b15.size)
  have x16 := x15.below n16
  have y16 := y15.below n16
  have z16 := z15.below n16
  have a16 := ans_seven w15
  clear m15 b15 x15 y15 z15
  go_wp2_with (first | (refine wpList_buildTo rfl 25 _ rfl (some 62) rfl (cells (nought)) (by kernel_rfl) ?_))
  refine (run_to F.rr _ m16 a16).mono ?_
  rintro e w17 ⟨v, rfl, m17, g17, o17⟩
  have hs17 := g17.size
  simp only [World.size_alloc] at hs17
  rw [F.v8, F.v9]
  obtain ⟨ad, cp, rfl⟩ := own_form o17
  rw [F.v7]
  have b17 : Below w.heap.size w w17 := below_grown b16 g17 (Nat.le_refl _) b16.size
  have x17 := Box.grown x16 g17 (by omega)
  have y17 := Box.grown y16 g17 (by omega)
  have z17 := Box.grown z16 g17 (by omega)
  clear o17 g17 b16 x16 y16 z16 n16 m16 a16
  obtain ⟨m18, b18, u18, n18⟩ := told_new m17 b17 r.c
  have x18 := x17.below n18
  have y18 := y17.below n18
  have z18 := z17.below n18
  clear m17 b17 x17 y17 z17
  go_upto_region 13 with (first | (refine wpList_store_row rfl 25 _ _ rfl w17.heap.size _ rfl rfl _ _ (told_box w17) (infoCs _) (cells_same _ _) (cells_one _) ?_))
  generalize hw18 : (w17.alloc (.cells (cells nought) 25)).setRow w17.heap.size (cells r.c) = w18 at m18 b18 x18 y18 z18 u18 n18 ⊢
  clear hw18 n18 m18
  have q1 : w18.cell? ⟨w4.heap.size, 1, none⟩ = some (.int .u32 5) := by have := x18.reg 1 (by omega); rw [F.v1] at this; exact this
  have q2 : w18.cell? ⟨w4.heap.size, 32, none⟩ = some (.int .u32 4) := by have := x18.at; rw [F.v2] at this; exact this
  have q3 : w18.cell? ⟨w6.heap.size, 32, none⟩ = some (.int .u32 8) := by have := y18.at; rw [F.v3] at this; exact this
  have q4 : w18.cell? ⟨w12.heap.size, 1, none⟩ = some (.int .u32 4104) := by have := z18.reg 1 (by omega); rw [F.v4] at this; exact this
  have q5 : w18.cell? ⟨w12.heap.size, 32, none⟩ = some (.int .u32 12) := by have := z18.at; rw [F.v5] at this; exact this
  have q6 : w18.cell? ⟨w17.heap.size, 10, none⟩ = some (.int .u32 7) := by have := u18.reg 10 (by omega); rw [F.v6] at this; exact this
  clear x18 y18 z18 u18
  go_wp2_with fail
  go_ret
  exact ⟨rfl, b18⟩
end Go.Proofs.YtilphdfobflbiaaGreat
