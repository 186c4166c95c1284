/-
  The walk of CpuDoes: it answers true of any machine and any instruction.
-/
import Derived.Test.YtilphdfobflbiaaCR
import Derived.Test.YtilphdfobflbiaaQB
import Derived.Test.YtilphdfobflbiaaCQ
import Derived.Test.YtilphdfobflbiaaHG
namespace Go.Proofs.Ytilphdfobflbiaa
open Go.RowKit Go.Maps Cp Ip Mm
set_option linter.unusedSimpArgs false

theorem rdoes_to {c d : Mach} {b : Bool} {op rd rs1 rs2 imm : Int} (h : doesM c op rd rs1 rs2 imm = d) (hb : doesB op rd rs1 rs2 imm = b) (w : World) :
    Calls Try.prog 8 #[.agg (cells c), .agg #[.int .i64 op, .int .i64 rd, .int .i64 rs1, .int .i64 rs2, .int .i64 imm]] w fun e w' => e = .returned (.tuple #[.agg (cells d), .bool b]) ∧ Below w.heap.size w w' := by
  have := rdoes_any4 c op rd rs1 rs2 imm w
  rw [h, hb] at this
  exact this
set_option maxRecDepth 100000 in
set_option maxHeartbeats 4000000 in
theorem cpuDoes_walk (c : Mach) (op rd rs1 rs2 imm : Int) (w : World) :
    Calls Try.prog 3 #[.agg (cells c), .agg #[.int .i64 op, .int .i64 rd, .int .i64 rs1, .int .i64 rs2, .int .i64 imm]] w fun e w' => e = .returned (.bool true) ∧ Below w.heap.size w w' := by
  have hz := zeroC
  have he := eqlC
  have hb0 : BoxC ((w.alloc (.cells (cells c) 25)).alloc (.cells #[.int .i64 op, .int .i64 rd, .int .i64 rs1, .int .i64 rs2, .int .i64 imm] 27)) w.heap.size c := (Box.new w c).alloc _
  have hi0 := InsAt.new (w.alloc (.cells (cells c) 25)) op rd rs1 rs2 imm 27
  simp only [World.size_alloc] at hi0
  have hl0 : Below w.heap.size w ((w.alloc (.cells (cells c) 25)).alloc (.cells #[.int .i64 op, .int .i64 rd, .int .i64 rs1, .int .i64 rs2, .int .i64 imm] 27)) := ((Below.refl _ _).alloc (Nat.le_refl _) _).alloc (by simp) _
  go_enter Try.func3, Try.ntmps3
  go_upto_region 1 with fail
  generalize hw0 : (w.alloc (.cells (cells c) 25)).alloc (.cells #[.int .i64 op, .int .i64 rd, .int .i64 rs1, .int .i64 rs2, .int .i64 imm] 27) = w0 at hb0 hi0 hl0 ⊢
  have hs0 : w0.heap.size = w.heap.size + 2 := by rw [← hw0]; simp
  clear hw0
  obtain ⟨x0, x1, x2, x3, x4, x5⟩ := hi0
  go_wp2_with (first | (refine wpList_load_row rfl 25 _ rfl w.heap.size rfl _ _ _ _ hb0 Try.underlying25 rfl (infoCs _) ?_))
  obtain ⟨d, hd⟩ : ∃ d, Hid (doesM c op rd rs1 rs2 imm = d) := ⟨_, rfl⟩
  obtain ⟨bb, hbb⟩ : ∃ b, Hid (doesB op rd rs1 rs2 imm = b) := ⟨_, rfl⟩
  refine (does_to hd.out hbb.out _).mono ?_
  rintro e w1 ⟨rfl, hb1⟩
  have i1 := (InsAt.mk x0 x1 x2 x3 x4 x5).below hb1
  have c1 := hb0.below hb1
  have l1 := hl0.trans (hb1.mono hl0.size)
  have hs1 := hb1.size
  clear x0 x1 x2 x3 x4 x5 hb0 hl0 hb1
  have n2 : Below w1.heap.size w1 ((w1.alloc (.cells (cells nought) 25)).setRow w1.heap.size (cells d)) := below_row ((Below.refl _ _).alloc (Nat.le_refl _) _) (Nat.le_refl _) _
  have d2 : BoxC ((w1.alloc (.cells (cells nought) 25)).setRow w1.heap.size (cells d)) w1.heap.size d := (Box.new w1 nought).setRow d
  have i2 := i1.below n2
  have c2 := c1.below n2
  have l2 := l1.trans (n2.mono l1.size)
  clear i1 c1 l1
  go_upto_region 2 with (first | (refine wpList_store_row rfl 25 _ _ rfl w1.heap.size _ rfl rfl _ _ (told_box w1) (infoCs _) (cells_same _ _) (cells_one _) ?_))
  generalize hw2 : (w1.alloc (.cells (cells nought) 25)).setRow w1.heap.size (cells d) = w2 at i2 c2 l2 d2 n2 ⊢
  have hs2 : w2.heap.size = w1.heap.size + 1 := by rw [← hw2]; simp
  clear hw2 n2
  obtain ⟨x0, x1, x2, x3, x4, x5⟩ := i2
  go_wp2_with (first | (refine wpList_load_row rfl 25 _ rfl w.heap.size rfl _ _ _ _ c2 Try.underlying25 rfl (infoCs _) ?_))
  refine (rdoes_to hd.out hbb.out _).mono ?_
  rintro e w3 ⟨rfl, hb3⟩
  have d3 := d2.below hb3
  have l3 := l2.trans (hb3.mono l2.size)
  have hs3 := hb3.size
  clear x0 x1 x2 x3 x4 x5 c2 d2 l2 hb3
  have n4 : Below w3.heap.size w3 ((w3.alloc (.cells (cells nought) 25)).setRow w3.heap.size (cells d)) := below_row ((Below.refl _ _).alloc (Nat.le_refl _) _) (Nat.le_refl _) _
  have e4 : BoxC ((w3.alloc (.cells (cells nought) 25)).setRow w3.heap.size (cells d)) w3.heap.size d := (Box.new w3 nought).setRow d
  have d4 := d3.below n4
  have l4 := l3.trans (n4.mono l3.size)
  clear d3 l3
  go_upto_region 3 with (first | (refine wpList_store_row rfl 25 _ _ rfl w3.heap.size _ rfl rfl _ _ (told_box w3) (infoCs _) (cells_same _ _) (cells_one _) ?_))
  generalize hw4 : (w3.alloc (.cells (cells nought) 25)).setRow w3.heap.size (cells d) = w4 at d4 e4 l4 n4 ⊢
  clear hw4 n4
  go_wp2_with fail
  refine (fixed4_any w4).mono ?_
  rintro e w5 ⟨rfl, hb5⟩
  have d5 := d4.below hb5
  have e5 := e4.below hb5
  have l5 := l4.trans (hb5.mono l4.size)
  clear d4 e4 l4 hb5
  go_wp2_with (first | (refine wpList_load_rowG (by rfl) 25 _ rfl w1.heap.size rfl _ _ _ _ d5 Try.underlying25 rfl (infoCs _) ?_) | (refine wpList_load_rowG (by rfl) 25 _ rfl w3.heap.size rfl _ _ _ _ e5 Try.underlying25 rfl (infoCs _) ?_))
  go_ret
  exact ⟨rfl, l5⟩
end Go.Proofs.Ytilphdfobflbiaa
