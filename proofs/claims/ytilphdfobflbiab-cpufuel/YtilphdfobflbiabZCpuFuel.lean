/-
  CpuFuel answers true of every scene and every number. There are no conditions.
  The walk of CpuFuel: it answers true of any scene and any number.
-/
import Derived.Laws.BitsLemmas
import Derived.Test.YtilphdfobflbiabRows
import Derived.WalkKit
import Derived.ProofKit
import Derived.OpenShut
import Derived.Carry
import Derived.Test.YtilphdfobflbiabZi
import Derived.Test.YtilphdfobflbiabZx
namespace Go.Proofs.Ytilphdfobflbiab
open Go.RowKit Go.Maps Cp Ip Mm
set_option linter.unusedSimpArgs false

theorem and15_i64 (n : Int) : bits .and .i64 n 15 = n % 16 := by
  have h15 : (BitVec.ofInt 64 15).toNat = 2 ^ 4 - 1 := by decide
  have key : (BitVec.ofInt 64 n &&& BitVec.ofInt 64 15).toNat = (n % ((2 ^ 64 : Nat) : Int)).toNat % 2 ^ 4 := by
    rw [BitVec.toNat_and, BitVec.toNat_ofInt, h15, Nat.and_two_pow_sub_one_eq_mod]
  show IntKind.i64.wrap ((BitVec.ofInt 64 n &&& BitVec.ofInt 64 15).toNat : Nat) = n % 16
  rw [key, IntKind.wrap_i64]
  omega
/-- Of two runs, one of more fuel. -/
theorem fuel_facts (f m : Nat) (c : Mach) (l : Cs) (zs : List (BitVec 32)) : (runM f c l zs).n ≤ f ∧ (runM f c l zs).n ≤ (runM (f + m) c l zs).n ∧ ((runM f c l zs).e ≠ 6 → runM (f + m) c l zs = runM f c l zs) := by
  have C := run_counts f c l zs
  obtain ⟨h1, h2⟩ := run_more f m c l zs
  refine ⟨C.steps, ?_, h2⟩
  by_cases h : (runM f c l zs).e = 6
  · rw [(h1 h).2, C.fuel h]
    simp [pre]
  · rw [h2 h]; exact Nat.le_refl _

set_option maxRecDepth 100000 in
set_option maxHeartbeats 16000000 in
theorem cpuFuel_walk (V : Scene) (more : Int) (w : World) (hV : SceneOk w V) (_hm : -9223372036854775808 ≤ more ∧ more ≤ 9223372036854775807) : Calls Try.prog 3 #[.agg (wcells V), .int .i64 more] w fun e w' => e = .returned (.bool true) ∧ Below w.heap.size w w' := by
  have hz := zeroC
  have he := eqlC
  have hne := neqC
  have sc0 := SceneAt.new w V
  have lo0 : Below w.heap.size w (w.alloc (.cells (wcells V) 28)) := (Below.refl _ _).alloc (Nat.le_refl _) _
  have hV0 := hV.below lo0
  obtain ⟨q, hq, hq0, hq1⟩ : ∃ q : Int, bits .and .i64 more 15 = q ∧ 0 ≤ q ∧ q ≤ 15 := ⟨_, and15_i64 more, by omega, by omega⟩
  go_enter Try.func3, Try.ntmps3
  go_upto_region 1 with fail
  generalize hw0 : w.alloc (.cells (wcells V) 28) = w0 at sc0 lo0 hV0 ⊢
  have hz0 : w0.heap.size = w.heap.size + 1 := by rw [← hw0]; simp
  clear hw0
  go_wp2_with (first | (refine wpList_load_row rfl 28 _ rfl w.heap.size rfl _ _ _ _ sc0 Try.underlying28 rfl (infoW _) ?_))
  refine (laid_any V w0 hV0).mono ?_
  rintro e w1 ⟨pb, bm, kb, rfl, m1, _, hp1, hb1, l1⟩
  have s1 := sc0.below l1
  have lo1 := lo0.trans (l1.mono lo0.size)
  have a1 := hV0.ans.below l1
  have hz1 := l1.size
  have hbm1 := m1.lt'
  have hpm1 := m1.lt
  have hrise := m1.rise
  clear sc0 lo0 l1 hV0
  generalize laidL V = l at m1 hrise
  have f0 := hV.f0
  have f1 := hV.f1
  have qf := s1.fuel
  clear hV
  obtain ⟨ad, cap, ea, _, _⟩ := id a1
  rw [ea] at a1
  generalize V.fuel = f at qf f0 f1
  obtain ⟨F, hF, hF0, hF1⟩ : ∃ F : Int, max 0 (min f 40) = F ∧ 0 ≤ F ∧ F ≤ 40 := ⟨_, rfl, by omega, by omega⟩
  have hF' : max (min f 40) 0 = F := by omega
  go_wp2_with fail
  refine (copy_op w1 m1).mono ?_
  rintro e w2 ⟨px, mx, rfl, x2, hpx, hmx, l2⟩
  have m2 := m1.below l2
  have s2 := s1.below l2
  have a2 := a1.below l2
  have lo2 := lo1.trans (l2.mono lo1.size)
  have hz2 := l2.size
  have hx1 := x2.lt
  have hx2 := x2.lt'
  clear m1 s1 a1 lo1 l2 qf
  go_wp2_with fail
  refine (copy_op w2 m2).mono ?_
  rintro e w3 ⟨py, my, rfl, y3, hpy, hmy, l3⟩
  have m3 := m2.below l3
  have x3 := x2.below l3
  have s3 := s2.below l3
  have a3 := a2.below l3
  have lo3 := lo2.trans (l3.mono lo2.size)
  have hz3 := l3.size
  have hy1 := y3.lt
  have hy2 := y3.lt'
  clear m2 x2 s2 a2 lo2 l3 hF hF'
  -- no fuel
  have qa := s3.ans
  rw [ea] at qa
  go_wp2_with (first | (refine wpList_load_cpu (by rfl) _ rfl w.heap.size rfl V s3 ?_))
  refine (run_any V.c _ V.zs 0 (by omega) w3 m3 a3).mono ?_
  rintro e w4 ⟨v, rfl, _, g4, o4⟩
  obtain ⟨av, cp, rfl⟩ := own_form o4
  rw [show runM (Int.toNat 0) (zr V.c) l V.zs = ⟨zr V.c, l, [], 6, 0⟩ from run_0 _ _ _]
  dsimp only
  have x4 := x3.apart g4 (by omega) (by omega)
  have y4 := y3.apart g4 (by omega) (by omega)
  have s4 := s3.grown g4 (by omega)
  have a4 := ansAt_grown a3 m3 g4
  have lo4 := below_grown lo3 g4 (by omega) lo3.size
  have hz4 := g4.size
  clear m3 x3 y3 s3 a3 lo3 g4 o4 qa
  obtain ⟨nn, bxw5⟩ := box_new2 w4 (zr V.c)
  have x5 := x4.below nn
  have y5 := y4.below nn
  have s5 := s4.below nn
  have a5 := a4.below nn
  have lo5 := lo4.trans (nn.mono lo4.size)
  clear x4 y4 s4 a4 lo4
  go_upto_region 9 with (first | (refine wpList_store_row rfl 25 _ _ rfl w4.heap.size _ rfl rfl _ _ (told_box w4) (infoCs _) (cells_same _ _) (cells_one _) ?_))
  generalize (w4.alloc (.cells (cells nought) 25)).setRow w4.heap.size (cells (zr V.c)) = w5 at nn bxw5 x5 y5 s5 a5 lo5 ⊢
  have hzw5 := nn.size
  clear nn

  -- so much
  have qa := s5.ans
  rw [ea] at qa
  go_wp2_with (first | (refine wpList_load_cpu (by rfl) _ rfl w.heap.size rfl V s5 ?_))
  refine (run_any V.c _ V.zs F (by omega) w5 x5 a5).mono ?_
  rintro e w6 ⟨v, rfl, x6, g6, _⟩
  have y6 := y5.apart g6 (by omega) (by omega)
  have s6 := s5.grown g6 (by omega)
  have a6 := ansAt_grown a5 x5 g6
  have lo6 := below_grown lo5 g6 (by omega) lo5.size
  have bz6 := Box.grown bxw5 g6 (by omega)
  have hz6 := g6.size
  clear x5 y5 s5 a5 lo5 g6 bxw5 qa
  have FF := fuel_facts F.toNat q.toNat (zr V.c) l V.zs
  generalize hrA : runM F.toNat (zr V.c) l V.zs = rA at x6 FF ⊢
  clear hrA
  obtain ⟨nn, bxw7⟩ := box_new2 w6 rA.c
  have x7 := x6.below nn
  have y7 := y6.below nn
  have s7 := s6.below nn
  have a7 := a6.below nn
  have lo7 := lo6.trans (nn.mono lo6.size)
  have bz7 := bz6.below nn
  clear x6 y6 s6 a6 lo6 bz6
  go_upto_region 10 with (first | (refine wpList_store_row rfl 25 _ _ rfl w6.heap.size _ rfl rfl _ _ (told_box w6) (infoCs _) (cells_same _ _) (cells_one _) ?_))
  generalize (w6.alloc (.cells (cells nought) 25)).setRow w6.heap.size (cells rA.c) = w7 at nn bxw7 x7 y7 s7 a7 lo7 bz7 ⊢
  have hzw7 := nn.size
  clear nn

  -- and more
  have qa := s7.ans
  rw [ea] at qa
  go_wp2_with (first | (refine wpList_load_cpu (by rfl) _ rfl w.heap.size rfl V s7 ?_))
  refine (run_any V.c _ V.zs (F + q) (by omega) w7 y7 a7).mono ?_
  rintro e w8 ⟨v', rfl, y8, g8, _⟩
  have x8 := x7.apart g8 (by omega) (by omega)
  have s8 := s7.grown g8 (by omega)
  have lo8 := below_grown lo7 g8 (by omega) lo7.size
  have bz8 := Box.grown bz7 g8 (by omega)
  have ba8 := Box.grown bxw7 g8 (by omega)
  have hz8 := g8.size
  clear x7 y7 s7 a7 lo7 g8 bz7 bxw7 qa
  rw [show (F + q).toNat = F.toNat + q.toNat by omega] at y8 ⊢
  generalize hrB : runM (F.toNat + q.toNat) (zr V.c) l V.zs = rB at y8 FF ⊢
  clear hrB
  obtain ⟨nn, bxw9⟩ := box_new2 w8 rB.c
  have x9 := x8.below nn
  have y9 := y8.below nn
  have s9 := s8.below nn
  have lo9 := lo8.trans (nn.mono lo8.size)
  have bz9 := bz8.below nn
  have ba9 := ba8.below nn
  clear x8 y8 s8 lo8 bz8 ba8
  go_upto_region 11 with (first | (refine wpList_store_row rfl 25 _ _ rfl w8.heap.size _ rfl rfl _ _ (told_box w8) (infoCs _) (cells_same _ _) (cells_one _) ?_))
  generalize (w8.alloc (.cells (cells nought) 25)).setRow w8.heap.size (cells rB.c) = w9 at nn bxw9 x9 y9 s9 lo9 bz9 ba9 ⊢
  have hzw9 := nn.size
  clear nn

  -- the machine as it was
  have t1 := bz9.lt
  have t2 := ba9.lt
  have t3 := bxw9.lt
  obtain ⟨nn, bxw10⟩ := box_new2 w9 V.c
  have x10 := x9.below nn
  have y10 := y9.below nn
  have lo10 := lo9.trans (nn.mono lo9.size)
  have bz10 := bz9.below nn
  have ba10 := ba9.below nn
  have bb10 := bxw9.below nn
  clear x9 y9 lo9 bz9 ba9 bxw9
  go_upto_region 12 with (first | (refine wpList_load_cpu (by rfl) _ rfl w.heap.size rfl V s9 ?_) | (refine wpList_store_row rfl 25 _ _ rfl w9.heap.size _ rfl rfl _ _ (told_box w9) (infoCs _) (cells_same _ _) (cells_one _) ?_))
  generalize (w9.alloc (.cells (cells nought) 25)).setRow w9.heap.size (cells V.c) = w10 at nn bxw10 x10 y10 lo10 bz10 ba10 bb10 ⊢
  have hzw10 := nn.size
  clear nn

  clear s9
  have q0 := bxw10.reg 0 (by omega)
  have f9 := bxw10.free 0
  have lo : Below w9.heap.size w10 (w10.setCell ⟨w9.heap.size, 0, none⟩ (.int .u32 0)) := below_cell1 (Below.refl _ _) (Nat.le_refl _) _ _
  have bd11 : BoxC (w10.setCell ⟨w9.heap.size, 0, none⟩ (.int .u32 0)) w9.heap.size (zr V.c) := bxw10.setx 0 (by omega) (BitVec.ofNat 32 0)
  have bz11 := bz10.other ⟨w9.heap.size, 0, none⟩ (.int .u32 0) (by simp; omega)
  have ba11 := ba10.other ⟨w9.heap.size, 0, none⟩ (.int .u32 0) (by simp; omega)
  have bb11 := bb10.other ⟨w9.heap.size, 0, none⟩ (.int .u32 0) (by simp; omega)
  have x11 := x10.low lo (by omega) (by omega)
  have y11 := y10.low lo (by omega) (by omega)
  have lo11 := lo10.trans (lo.mono (by omega))
  clear lo x10 y10 lo10 bz10 ba10 bb10
  go_upto_region 13 with fail
  generalize w10.setCell ⟨w9.heap.size, 0, none⟩ (.int .u32 0) = w11 at bd11 bz11 ba11 bb11 x11 y11 lo11 ⊢
  clear q0 f9 bxw10
  obtain ⟨F1, F2, F3⟩ := FF
  have fin : ∀ W : World, Below w.heap.size w W → Calls Try.prog 10 #[] W fun e w' => e = .returned (.bool true) ∧ Below w.heap.size w w' := fun W hW => (fixed4_any W).mono fun _ _ h => ⟨h.1, hW.trans (h.2.mono hW.size)⟩
  have T1 : decide (F < (rA.n : Int)) = false := decide_eq_false (by omega)
  have T2 : decide (rB.n < rA.n) = false := decide_eq_false (by omega)
  go_upto_region 15 with (first | (refine wpList_load_rowG (by rfl) 25 _ rfl w4.heap.size rfl _ _ _ _ bz11 Try.underlying25 rfl (infoCs _) ?_) | (refine wpList_load_rowG (by rfl) 25 _ rfl w9.heap.size rfl _ _ _ _ bd11 Try.underlying25 rfl (infoCs _) ?_))
  clear bz11 bd11 T1 T2 hne
  by_cases h6 : rA.e = 6
  · have T3 : (rA.e == 6) = true := by rw [h6]; rfl
    clear F1 F2 F3 h6 x11 y11 ba11 bb11
    go_wp2_with fail
    refine (fin w11 lo11).mono ?_
    rintro e w12 ⟨rfl, lo12⟩
    go_wp2_with fail
    go_ret
    exact ⟨rfl, lo12⟩
  · have T3 : (rA.e == 6) = false := by simpa using h6
    have hAB := F3 h6
    subst hAB
    have hlen := y11.rise.length
    clear F1 F2 F3 h6
    go_wp2_with (first | (refine wpList_load_rowG (by rfl) 25 _ rfl w6.heap.size rfl _ _ _ _ ba11 Try.underlying25 rfl (infoCs _) ?_) | (refine wpList_load_rowG (by rfl) 25 _ rfl w8.heap.size rfl _ _ _ _ bb11 Try.underlying25 rfl (infoCs _) ?_))
    refine (cells_any w11 x11).mono ?_
    rintro e w12 ⟨u, rfl, o12, l12⟩
    have y12 := y11.below l12
    have lo12 := lo11.trans (l12.mono lo11.size)
    clear x11 y11 l12 lo11 ba11 bb11
    go_wp2_with fail
    refine (cells_any w12 y12).mono ?_
    rintro e w13 ⟨u', rfl, o13, l13⟩
    have o14 := own_below o12 l13
    have lo13 := lo12.trans (l13.mono lo12.size)
    clear y12 lo12 o12 l13
    go_wp2_with fail
    refine (same_yes w13 o14 o13 hlen).mono ?_
    rintro e w14 ⟨rfl, n, rfl⟩
    have lo14 := lo13.trans (drewN_low w13 n _)
    clear lo13 o13 o14
    go_wp2_with fail
    refine (fin _ lo14).mono ?_
    rintro e w15 ⟨rfl, lo15⟩
    go_wp2_with fail
    go_ret
    exact ⟨rfl, lo15⟩
end Go.Proofs.Ytilphdfobflbiab
namespace Go.Proofs.Ytilphdfobflbiab.cpuFuel
open Go.ChangeShapes Go.WideShapes Go.ChangeAt Go.RowKit
set_option linter.unusedVariables false

theorem own : ownKnob Try.prog.godebug = none := by kernel_rfl

set_option maxRecDepth 100000 in
theorem lifted (os : Os) (started : os.Started) (H : Type) (enc : TypeId × Value → H) :
    ReturnsInHanded {} Try.checked os 3 .any (Rows.cpuFuelSpec.pre6 enc Try.prog Try.f3 Rows.cpuFuelRow.domain false) (Rows.cpuFuelSpec.post enc Try.prog Try.f3 false true false false) := by
  refine returnsInHanded_of_change (C := Try.checked) own started (by kernel_rfl) Try.func3
    (ChangeSpec.witness6 (enc := enc) (C := Try.checked) false ⟨#[], #[.agg #[.int .u32 0, .int .u32 0, .int .u32 0, .int .u32 0, .int .u32 0, .int .u32 0, .int .u32 0, .int .u32 0, .int .u32 0, .int .u32 0, .int .u32 0, .int .u32 0, .int .u32 0, .int .u32 0, .int .u32 0, .int .u32 0, .int .u32 0, .int .u32 0, .int .u32 0, .int .u32 0, .int .u32 0, .int .u32 0, .int .u32 0, .int .u32 0, .int .u32 0, .int .u32 0, .int .u32 0, .int .u32 0, .int .u32 0, .int .u32 0, .int .u32 0, .int .u32 0, .int .u32 0, .int .u32 0, .int .u32 0, .string ⟨#[]⟩, .string ⟨#[]⟩, .slice none 0 0, .int .i64 0], .int .i64 0], []⟩ 8 (by kernel_rfl) (by kernel_rfl) (by kernel_rfl) (by kernel_rfl)) ?_
  intro W base args ds gs before hval0 hW hcnd _
  have hval : ∀ (j : Nat) t v, Try.f3.params[j]? = some t → args[j]? = some v → Value.okWide Try.prog W .any base t v := hval0
  have hW' := hW
  obtain ⟨p, q, hA0, hV, rfl, hfz, hnd⟩ := hW
  have hA : DataW.TrodAll enc Try.prog W 0 (fun _ => true) true Try.f3.params.toList args.toList ds p := hA0
  rw [Try.params3] at hA hval
  obtain ⟨v0, vs0, d0, ds0, p0, q0, hargs, rfl, rfl, h0, r0⟩ := trodAll_cons hA
  obtain ⟨v1, vs1, d1, ds1, p1, q1, rfl, rfl, rfl, h1, r1⟩ := trodAll_cons r0
  obtain ⟨rfl, rfl, rfl⟩ := trodAll_nil r1
  obtain rfl : args = #[v0, v1] := by cases args; simp_all
  obtain ⟨rfl, rfl⟩ := trodVars_none hV
  have hlt : ∀ x ∈ p0 ++ p1, x.block < W.heap.size := fun x hx => by simpa using hW'.lt x (by simpa using hx)
  have k0 := h0
  have l0 : ∀ x ∈ p0, x.block < W.heap.size := fun x hx => hlt x (by simp [hx])
  have k1 := h1
  have l1 : ∀ x ∈ p1, x.block < W.heap.size := fun x hx => hlt x (by simp [hx])
  obtain ⟨V0, hV0, rfl⟩ := open_world (hval 0 28 v0 rfl rfl) h0
  obtain ⟨a1, rfl, rfl, rfl, w1⟩ := open_int Try.underlying3 (hval 1 3 v1 rfl rfl) h1
  clear hA0 hval0
  refine (cpuFuel_walk V0 a1 W hV0 (bounds_i64 w1)).mono fun e W' ⟨he, hg⟩ => ?_
  subst he
  exact ⟨_, rfl, _, _, _, [], _, [], hW', trodAll_mk1 (shut_bool Try.underlying4 _), (trodAll_cons_mk (Below.trod laidOut4 (by kernel_rfl) (of_decide_eq_true (by kernel_rfl)) k0 hg l0) (trodAll_cons_mk (Below.trod laidOut4 (by kernel_rfl) (of_decide_eq_true (by kernel_rfl)) k1 hg l1) trodAll_mk0)), rfl, hg.frame _, fun h => by cases h⟩

theorem over : Rows.cpuFuelRow.holds Try.pinned (OpenSpec.ofChange Rows.cpuFuelSpec) :=
  OpenClaim.holds_of_wide 3 Try.f3 rfl rfl rfl rfl rfl rfl rfl ⟨rfl, rfl, rfl, rfl, rfl⟩ rfl rfl rfl rfl rfl (by kernel_rfl) Try.func3 (by kernel_rfl)
    (of_decide_eq_true (by kernel_rfl)) (by unfold Func.isWrapper; first | (rw [if_pos (by decide +kernel)]; kernel_rfl) | (rw [if_neg (by decide +kernel)]; exact ⟨rfl, rfl⟩))
    (fun os started H enc _ => lifted os started H enc)

theorem proved : Rows.CpuFuelSaid :=
  over
#print axioms proved
end Go.Proofs.Ytilphdfobflbiab.cpuFuel
