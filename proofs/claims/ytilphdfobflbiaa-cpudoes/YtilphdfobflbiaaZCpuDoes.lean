/-
  CpuDoes answers true of every machine and every instruction. There are no conditions.
  The walk of CpuDoes: it answers true of any machine and any instruction.
-/
import Derived.Test.YtilphdfobflbiaaRows
import Derived.WalkKit
import Derived.ProofKit
import Derived.OpenShut
import Derived.Carry
import Derived.Test.YtilphdfobflbiaaZo
import Derived.Test.YtilphdfobflbiaaZp
import Derived.Test.YtilphdfobflbiaaZs
import Derived.Test.YtilphdfobflbiaaZt
namespace Go.Proofs.Ytilphdfobflbiaa
open Go.RowKit Go.Maps Cp Ip Mm
set_option linter.unusedSimpArgs false

theorem rdoes_to {c d : Mach} {b : Bool} {op rd rs1 rs2 imm : Int} (h : doesM c op rd rs1 rs2 imm = d) (hb : doesB op rd rs1 rs2 imm = b) (w : World) :
    Calls Try.prog 8 #[.agg (cells c), .agg #[.int .i64 op, .int .i64 rd, .int .i64 rs1, .int .i64 rs2, .int .i64 imm]] w fun e w' => e = .returned (.tuple #[.agg (cells d), .bool b]) ∧ Below w.heap.size w w' := by
  have := rdoes_any4 c op rd rs1 rs2 imm w
  rw [h, hb] at this
  exact this
set_option maxRecDepth 100000 in
set_option maxHeartbeats 4000000 in
theorem cpuDoes_walk (c : Mach) (op rd rs1 rs2 imm : Int) (w : World) :
    Calls Try.prog 3 #[.agg (cells c), .agg #[.int .i64 op, .int .i64 rd, .int .i64 rs1, .int .i64 rs2, .int .i64 imm]] w fun e w' => e = .returned (.bool true) ∧ Below w.heap.size w w' := by
  have hz := zeroC
  have he := eqlC
  have hb0 : BoxC ((w.alloc (.cells (cells c) 25)).alloc (.cells #[.int .i64 op, .int .i64 rd, .int .i64 rs1, .int .i64 rs2, .int .i64 imm] 27)) w.heap.size c := (Box.new w c).alloc _
  have hi0 := InsAt.new (w.alloc (.cells (cells c) 25)) op rd rs1 rs2 imm 27
  simp only [World.size_alloc] at hi0
  have hl0 : Below w.heap.size w ((w.alloc (.cells (cells c) 25)).alloc (.cells #[.int .i64 op, .int .i64 rd, .int .i64 rs1, .int .i64 rs2, .int .i64 imm] 27)) := ((Below.refl _ _).alloc (Nat.le_refl _) _).alloc (by simp) _
  go_enter Try.func3, Try.ntmps3
  go_upto_region 1 with fail
  generalize hw0 : (w.alloc (.cells (cells c) 25)).alloc (.cells #[.int .i64 op, .int .i64 rd, .int .i64 rs1, .int .i64 rs2, .int .i64 imm] 27) = w0 at hb0 hi0 hl0 ⊢
  have hs0 : w0.heap.size = w.heap.size + 2 := by rw [← hw0]; simp
  clear hw0
  obtain ⟨x0, x1, x2, x3, x4, x5⟩ := hi0
  go_wp2_with (first | (refine wpList_load_row rfl 25 _ rfl w.heap.size rfl _ _ _ _ hb0 Try.underlying25 rfl (infoCs _) ?_))
  obtain ⟨d, hd⟩ : ∃ d, Hid (doesM c op rd rs1 rs2 imm = d) := ⟨_, rfl⟩
  obtain ⟨bb, hbb⟩ : ∃ b, Hid (doesB op rd rs1 rs2 imm = b) := ⟨_, rfl⟩
  refine (does_to hd.out hbb.out _).mono ?_
  rintro e w1 ⟨rfl, hb1⟩
  have i1 := (InsAt.mk x0 x1 x2 x3 x4 x5).below hb1
  have c1 := hb0.below hb1
  have l1 := hl0.trans (hb1.mono hl0.size)
  have hs1 := hb1.size
  clear x0 x1 x2 x3 x4 x5 hb0 hl0 hb1
  have n2 : Below w1.heap.size w1 ((w1.alloc (.cells (cells nought) 25)).setRow w1.heap.size (cells d)) := below_row ((Below.refl _ _).alloc (Nat.le_refl _) _) (Nat.le_refl _) _
  have d2 : BoxC ((w1.alloc (.cells (cells nought) 25)).setRow w1.heap.size (cells d)) w1.heap.size d := (Box.new w1 nought).setRow d
  have i2 := i1.below n2
  have c2 := c1.below n2
  have l2 := l1.trans (n2.mono l1.size)
  clear i1 c1 l1
  go_upto_region 2 with (first | (refine wpList_store_row rfl 25 _ _ rfl w1.heap.size _ rfl rfl _ _ (told_box w1) (infoCs _) (cells_same _ _) (cells_one _) ?_))
  generalize hw2 : (w1.alloc (.cells (cells nought) 25)).setRow w1.heap.size (cells d) = w2 at i2 c2 l2 d2 n2 ⊢
  have hs2 : w2.heap.size = w1.heap.size + 1 := by rw [← hw2]; simp
  clear hw2 n2
  obtain ⟨x0, x1, x2, x3, x4, x5⟩ := i2
  go_wp2_with (first | (refine wpList_load_row rfl 25 _ rfl w.heap.size rfl _ _ _ _ c2 Try.underlying25 rfl (infoCs _) ?_))
  refine (rdoes_to hd.out hbb.out _).mono ?_
  rintro e w3 ⟨rfl, hb3⟩
  have d3 := d2.below hb3
  have l3 := l2.trans (hb3.mono l2.size)
  have hs3 := hb3.size
  clear x0 x1 x2 x3 x4 x5 c2 d2 l2 hb3
  have n4 : Below w3.heap.size w3 ((w3.alloc (.cells (cells nought) 25)).setRow w3.heap.size (cells d)) := below_row ((Below.refl _ _).alloc (Nat.le_refl _) _) (Nat.le_refl _) _
  have e4 : BoxC ((w3.alloc (.cells (cells nought) 25)).setRow w3.heap.size (cells d)) w3.heap.size d := (Box.new w3 nought).setRow d
  have d4 := d3.below n4
  have l4 := l3.trans (n4.mono l3.size)
  clear d3 l3
  go_upto_region 3 with (first | (refine wpList_store_row rfl 25 _ _ rfl w3.heap.size _ rfl rfl _ _ (told_box w3) (infoCs _) (cells_same _ _) (cells_one _) ?_))
  generalize hw4 : (w3.alloc (.cells (cells nought) 25)).setRow w3.heap.size (cells d) = w4 at d4 e4 l4 n4 ⊢
  clear hw4 n4
  go_wp2_with fail
  refine (fixed4_any w4).mono ?_
  rintro e w5 ⟨rfl, hb5⟩
  have d5 := d4.below hb5
  have e5 := e4.below hb5
  have l5 := l4.trans (hb5.mono l4.size)
  clear d4 e4 l4 hb5
  go_wp2_with (first | (refine wpList_load_rowG (by rfl) 25 _ rfl w1.heap.size rfl _ _ _ _ d5 Try.underlying25 rfl (infoCs _) ?_) | (refine wpList_load_rowG (by rfl) 25 _ rfl w3.heap.size rfl _ _ _ _ e5 Try.underlying25 rfl (infoCs _) ?_))
  go_ret
  exact ⟨rfl, l5⟩
end Go.Proofs.Ytilphdfobflbiaa
namespace Go.Proofs.Ytilphdfobflbiaa.cpuDoes
open Go.ChangeShapes Go.WideShapes Go.ChangeAt Go.RowKit Go.Joins
set_option linter.unusedVariables false

theorem own : ownKnob Try.prog.godebug = none := by kernel_rfl

set_option maxRecDepth 100000 in
theorem lifted (os : Os) (started : os.Started) (H : Type) (enc : TypeId × Value → H) :
    ReturnsInHanded {} Try.checked os 3 .any (Rows.cpuDoesSpec.pre6 enc Try.prog Try.f3 Rows.cpuDoesRow.domain false) (Rows.cpuDoesSpec.post enc Try.prog Try.f3 false true false false) := by
  refine returnsInHanded_of_change (C := Try.checked) own started (by kernel_rfl) Try.func3
    (ChangeSpec.witness6 (enc := enc) (C := Try.checked) false ⟨#[], #[.agg #[.int .u32 0, .int .u32 0, .int .u32 0, .int .u32 0, .int .u32 0, .int .u32 0, .int .u32 0, .int .u32 0, .int .u32 0, .int .u32 0, .int .u32 0, .int .u32 0, .int .u32 0, .int .u32 0, .int .u32 0, .int .u32 0, .int .u32 0, .int .u32 0, .int .u32 0, .int .u32 0, .int .u32 0, .int .u32 0, .int .u32 0, .int .u32 0, .int .u32 0, .int .u32 0, .int .u32 0, .int .u32 0, .int .u32 0, .int .u32 0, .int .u32 0, .int .u32 0, .int .u32 0], .agg #[.int .i64 0, .int .i64 0, .int .i64 0, .int .i64 0, .int .i64 0]], []⟩ 8 (by kernel_rfl) (by kernel_rfl) (by kernel_rfl) (by kernel_rfl)) ?_
  intro W base args ds gs before hval0 hW hcnd _
  have hval : ∀ (j : Nat) t v, Try.f3.params[j]? = some t → args[j]? = some v → Value.okWide Try.prog W .any base t v := hval0
  have hW' := hW
  obtain ⟨p, q, hA0, hV, rfl, hfz, hnd⟩ := hW
  have hA : DataW.TrodAll enc Try.prog W 0 (fun _ => true) true Try.f3.params.toList args.toList ds p := hA0
  rw [Try.params3] at hA hval
  obtain ⟨v0, vs0, d0, ds0, p0, q0, hargs, rfl, rfl, h0, r0⟩ := trodAll_cons hA
  obtain ⟨v1, vs1, d1, ds1, p1, q1, rfl, rfl, rfl, h1, r1⟩ := trodAll_cons r0
  obtain ⟨rfl, rfl, rfl⟩ := trodAll_nil r1
  obtain rfl : args = #[v0, v1] := by cases args; simp_all
  obtain ⟨rfl, rfl⟩ := trodVars_none hV
  have hlt : ∀ x ∈ p0 ++ p1, x.block < W.heap.size := fun x hx => by simpa using hW'.lt x (by simpa using hx)
  have k0 := h0
  have l0 : ∀ x ∈ p0, x.block < W.heap.size := fun x hx => hlt x (by simp [hx])
  have k1 := h1
  have l1 : ∀ x ∈ p1, x.block < W.heap.size := fun x hx => hlt x (by simp [hx])
  obtain ⟨c0, rfl⟩ := open_cpu (hval 0 25 v0 rfl rfl) h0
  obtain ⟨i10, i11, i12, i13, i14, rfl, rfl, rfl, u10, u11, u12, u13, u14⟩ := open_inst (hval 1 27 v1 rfl rfl) h1
  clear hA0 hval0
  refine (cpuDoes_walk c0 i10 i11 i12 i13 i14 W).mono fun e W' ⟨he, hg⟩ => ?_
  subst he
  exact ⟨_, rfl, _, _, _, [], _, [], hW', trodAll_mk1 (shut_bool Try.underlying4 _), (trodAll_cons_mk (Below.trod laidOut4 (by kernel_rfl) (of_decide_eq_true (by kernel_rfl)) k0 hg l0) (trodAll_cons_mk (Below.trod laidOut4 (by kernel_rfl) (of_decide_eq_true (by kernel_rfl)) k1 hg l1) trodAll_mk0)), rfl, hg.frame _, fun h => by cases h⟩

theorem over : Rows.cpuDoesRow.holds Try.pinned (OpenSpec.ofChange Rows.cpuDoesSpec) :=
  OpenClaim.holds_of_wide 3 Try.f3 rfl rfl rfl rfl rfl rfl rfl ⟨rfl, rfl, rfl, rfl, rfl⟩ rfl rfl rfl rfl rfl (by kernel_rfl) Try.func3 (by kernel_rfl)
    (of_decide_eq_true (by kernel_rfl)) (by unfold Func.isWrapper; first | (rw [if_pos (by decide +kernel)]; kernel_rfl) | (rw [if_neg (by decide +kernel)]; exact ⟨rfl, rfl⟩))
    (fun os started H enc _ => lifted os started H enc)

theorem proved : Rows.CpuDoesSaid :=
  over
#print axioms proved
end Go.Proofs.Ytilphdfobflbiaa.cpuDoes
