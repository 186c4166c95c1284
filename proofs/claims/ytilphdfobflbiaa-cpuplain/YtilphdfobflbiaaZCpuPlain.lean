/-
  CpuPlain answers true of every scene and every instruction. There are no conditions.
  The walk of CpuPlain: it answers true of any scene and any instruction.
-/
import Derived.Test.YtilphdfobflbiaaRows
import Derived.WalkKit
import Derived.ProofKit
import Derived.OpenShut
import Derived.Carry
import Derived.Test.YtilphdfobflbiaaZu
import Derived.Test.YtilphdfobflbiaaZx
import Derived.Test.YtilphdfobflbiaaZy
namespace Go.Proofs.Ytilphdfobflbiaa
open Go.RowKit Go.Maps Cp Ip Mm
set_option linter.unusedSimpArgs false

theorem pc4 (p : BitVec 32) : ∃ P : BitVec 32, bits .andNot .u32 (p.toNat : Int) 3 = (P.toNat : Int) ∧ (P.toNat : Int) % 4 = 0 := by
  refine ⟨p &&& ~~~ (BitVec.ofNat 32 3), Wd.andNot_ p (BitVec.ofNat 32 3), ?_⟩
  have h : (p &&& ~~~ (BitVec.ofNat 32 3)) &&& (BitVec.ofNat 32 3) = (BitVec.ofNat 32 0) := by
    rw [BitVec.and_assoc, show (~~~ (BitVec.ofNat 32 3) &&& (BitVec.ofNat 32 3) : BitVec 32) = (BitVec.ofNat 32 0) by decide, BitVec.and_zero]
  have h2 : (p &&& ~~~ (BitVec.ofNat 32 3)).toNat &&& 3 = 0 := by
    have := congrArg BitVec.toNat h
    rw [BitVec.toNat_and] at this
    exact this
  have h3 := Nat.and_two_pow_sub_one_eq_mod (p &&& ~~~ (BitVec.ofNat 32 3)).toNat 2
  have h4 : (p &&& ~~~ (BitVec.ofNat 32 3)).toNat % 4 = 0 := by
    rw [← h2]; exact h3.symm
  omega
theorem deck_of {x : BitVec 32} {k : Nat} (hk : k < 47) (ha : asked x k = true) : deck x = some k := by
  cases h : deck x with
  | none => rw [deck_none h k hk] at ha; cases ha
  | some j =>
    obtain ⟨h1, h2⟩ := deck_some h
    rw [asked_one x j k h1 hk h2 ha]
theorem step_plain {c : Mach} {l : Cs} {op rd rs1 rs2 imm : Int} (h4 : (c.pc.toNat : Int) % 4 = 0) (hr : right op rd rs1 rs2 imm = true) (hp : isPlain op = true) :
    stepM c (sto l (c.pc.toNat : Int) ((enc op rd rs1 rs2 imm).toNat : Int) 4) = ⟨doesM c op rd rs1 rs2 imm, 0, sto l (c.pc.toNat : Int) ((enc op rd rs1 rs2 imm).toNat : Int) 4⟩ := by
  obtain ⟨h0, h47⟩ := right_47 hr
  obtain ⟨k, rfl⟩ := Int.eq_ofNat_of_zero_le h0
  have hk : k < 47 := by omega
  obtain ⟨a, e1, e2, e3, e4⟩ := there k hk rd rs1 rs2 imm hr
  have hw : wordAt (sto l (c.pc.toNat : Int) ((enc (k : Int) rd rs1 rs2 imm).toNat : Int) 4) c.pc = enc (k : Int) rd rs1 rs2 imm := by
    unfold wordAt
    rw [num_sto ⟨by omega, Wd.lt c.pc⟩ ⟨by omega, Wd.lt _⟩]
    simp
  unfold stepM
  rw [if_neg (by omega), hw, deck_of hk a]
  dsimp only
  rw [show fRd (enc (k : Int) rd rs1 rs2 imm) k = rd from e1, show fRs1 (enc (k : Int) rd rs1 rs2 imm) k = rs1 from e2, show fRs2 (enc (k : Int) rd rs1 rs2 imm) k = rs2 from e3, show fImm (enc (k : Int) rd rs1 rs2 imm) k = imm from e4]
  unfold insM
  rw [if_pos hp]
  congr 1
  unfold doesM
  rw [zr_zr]

/-- While a plain instruction is tried. -/
structure PlainAt (w : World) (g : Nat) (c : Mach) (pb bm : Nat) (l : Cs) (op rd rs1 rs2 imm : Int) (W : World) : Prop where
  c : BoxC W g c
  ins : InsAt W (w.heap.size + 1) op rd rs1 rs2 imm
  mem : MemAt W pb bm l
  low : Below w.heap.size w W
section
variable {w W W' : World} {g : Nat} {c : Mach} {pb bm : Nat} {l : Cs} {op rd rs1 rs2 imm : Int}
theorem PlainAt.below (h : PlainAt w g c pb bm l op rd rs1 rs2 imm W) (hb : Below W.heap.size W W') : PlainAt w g c pb bm l op rd rs1 rs2 imm W' :=
  ⟨h.c.below hb, h.ins.below hb, h.mem.below hb, h.low.trans (hb.mono h.low.size)⟩
theorem insAt_grown {b k : Nat} (h : InsAt W b op rd rs1 rs2 imm) (hg : W.grownBy W' (some k)) (hn : b ≠ k) : InsAt W' b op rd rs1 rs2 imm := by
  have q : ∀ o, W'.cell? ⟨b, o, none⟩ = W.cell? ⟨b, o, none⟩ := fun o => by
    unfold World.cell?; rw [hg.block b h.lt (by simpa using hn)]
  exact ⟨(q _).trans h.c0, (q _).trans h.c1, (q _).trans h.c2, (q _).trans h.c3, (q _).trans h.c4, Nat.lt_of_lt_of_le h.lt hg.size⟩
end

set_option maxRecDepth 100000 in
set_option maxHeartbeats 8000000 in
theorem cpuPlain_walk (V : Scene) (op rd rs1 rs2 imm : Int) (w : World) (hV : SceneOk w V) : Calls Try.prog 6 #[.agg (wcells V), .agg #[.int .i64 op, .int .i64 rd, .int .i64 rs1, .int .i64 rs2, .int .i64 imm]] w fun e w' => e = .returned (.bool true) ∧ Below w.heap.size w w' := by
  have hz := zeroC
  have he := eqlC
  have lo0 : Below w.heap.size w ((w.alloc (.cells (wcells V) 34)).alloc (.cells #[.int .i64 op, .int .i64 rd, .int .i64 rs1, .int .i64 rs2, .int .i64 imm] 27)) := ((Below.refl _ _).alloc (Nat.le_refl _) _).alloc (by simp) _
  have sc0 : SceneAt ((w.alloc (.cells (wcells V) 34)).alloc (.cells #[.int .i64 op, .int .i64 rd, .int .i64 rs1, .int .i64 rs2, .int .i64 imm] 27)) w.heap.size V := (SceneAt.new w V).below ((Below.refl _ _).alloc (Nat.le_refl _) _)
  have i0 := InsAt.new (w.alloc (.cells (wcells V) 34)) op rd rs1 rs2 imm 27
  simp only [World.size_alloc] at i0
  have hV0 := hV.below lo0
  obtain ⟨P, hP, hP4⟩ := pc4 V.c.pc
  go_enter Try.func6, Try.ntmps6
  go_upto_region 1 with fail
  generalize hw0 : (w.alloc (.cells (wcells V) 34)).alloc (.cells #[.int .i64 op, .int .i64 rd, .int .i64 rs1, .int .i64 rs2, .int .i64 imm] 27) = w0 at sc0 lo0 hV0 i0 ⊢
  have hz0 : w0.heap.size = w.heap.size + 2 := by rw [← hw0]; simp
  clear hw0
  go_wp2_with (first | (refine wpList_load_row rfl 34 _ rfl w.heap.size rfl _ _ _ _ sc0 Try.underlying34 rfl (infoW _) ?_))
  refine (laid_any V w0 hV0).mono ?_
  rintro e w1 ⟨pb, bm, kb, rfl, m1, _, hp1, hb1, l1⟩
  have s1 := sc0.below l1
  have i1 := i0.below l1
  have lo1 := lo0.trans (l1.mono lo0.size)
  have hz1 := l1.size
  have hbm1 := m1.lt'
  have hpm1 := m1.lt
  clear sc0 lo0 l1 hV0 i0
  generalize laidL V = l at m1
  obtain ⟨n2, c2⟩ := box_new2 w1 V.c
  have A2 : PlainAt w w1.heap.size V.c pb bm l op rd rs1 rs2 imm _ := ⟨c2, i1.below n2, m1.below n2, lo1.trans (n2.mono lo1.size)⟩
  clear i1 m1 lo1 c2
  go_upto_region 5 with (first | (refine wpList_load_cpu (by rfl) _ rfl w.heap.size rfl V s1 ?_) | (refine wpList_store_row rfl 25 _ _ rfl w1.heap.size _ rfl rfl _ _ (told_box w1) (infoCs _) (cells_same _ _) (cells_one _) ?_))
  generalize (w1.alloc (.cells (cells nought) 25)).setRow w1.heap.size (cells V.c) = w2 at n2 A2 ⊢
  have hz2 := n2.size
  clear n2 s1
  have q2 := A2.c.at
  have f2 := A2.c.free 32
  have A3 : PlainAt w w1.heap.size (sp V.c P) pb bm l op rd rs1 rs2 imm (w2.setCell ⟨w1.heap.size, 32, none⟩ (.int .u32 (P.toNat : Int))) := by
    have lo : Below w1.heap.size w2 (w2.setCell ⟨w1.heap.size, 32, none⟩ (.int .u32 (P.toNat : Int))) := below_cell1 (Below.refl _ _) (Nat.le_refl _) _ _
    exact ⟨A2.c.setp P, insAt_other A2.ins _ _ (by simp; omega), A2.mem.low lo (by omega) (by omega), A2.low.trans (lo.mono (by omega))⟩
  go_upto_region 6 with fail
  have hz3 : w2.heap.size = (w2.setCell ⟨w1.heap.size, 32, none⟩ (.int .u32 (P.toNat : Int))).heap.size := by simp
  generalize w2.setCell ⟨w1.heap.size, 32, none⟩ (.int .u32 (P.toNat : Int)) = w3 at A3 hz3 ⊢
  clear A2 q2 f2 hP
  obtain ⟨x0, x1, x2, x3, x4, x5⟩ := A3.ins
  go_wp2_with (first | (refine wpList_load_rowG (by rfl) 25 _ rfl w1.heap.size rfl _ _ _ _ A3.c Try.underlying25 rfl (infoCs _) ?_))
  obtain ⟨d, hd⟩ : ∃ d, Hid (doesM (sp V.c P) op rd rs1 rs2 imm = d) := ⟨_, rfl⟩
  obtain ⟨bb, hbb⟩ : ∃ b, Hid (doesB op rd rs1 rs2 imm = b) := ⟨_, rfl⟩
  refine (does_to hd.out hbb.out _).mono ?_
  rintro e w4 ⟨rfl, l4⟩
  have A4 := A3.below l4
  have hz4 := l4.size
  clear x0 x1 x2 x3 x4 x5 A3 l4
  obtain ⟨n5, d5⟩ := box_new2 w4 d
  have A5 := A4.below n5
  clear A4
  go_upto_region 7 with (first | (refine wpList_store_row rfl 25 _ _ rfl w4.heap.size _ rfl rfl _ _ (told_box w4) (infoCs _) (cells_same _ _) (cells_one _) ?_))
  generalize (w4.alloc (.cells (cells nought) 25)).setRow w4.heap.size (cells d) = w5 at n5 d5 A5 ⊢
  have hz5 := n5.size
  clear n5
  cases bb with
  | false =>
    go_wp2_with fail
    refine (fixed4_any _).mono ?_
    rintro e w9 ⟨rfl, l9⟩
    have A9 := A5.below l9
    clear A5 l9
    go_wp2_with fail
    go_ret
    exact ⟨rfl, A9.low⟩
  | true =>
    have hbt := hbb.out
    unfold doesB at hbt
    rw [Bool.and_eq_true] at hbt
    obtain ⟨hr, hp⟩ := hbt
    have hS := step_plain (c := sp V.c P) (l := l) hP4 hr hp
    rw [hd.out] at hS
    clear hp
    obtain ⟨x0, x1, x2, x3, x4, x5⟩ := A5.ins
    go_wp2_with fail
    refine (rencode_yes op rd rs1 rs2 imm hr _).mono ?_
    rintro e w6 ⟨rfl, l6⟩
    have A6 := A5.below l6
    have d6 := d5.below l6
    have hz6 := l6.size
    clear x0 x1 x2 x3 x4 x5 A5 d5 l6 hr hbb hd
    generalize enc op rd rs1 rs2 imm = X at hS ⊢
    change stepM (sp V.c P) (sto l (P.toNat : Int) (X.toNat : Int) 4) = ⟨d, 0, sto l (P.toNat : Int) (X.toNat : Int) 4⟩ at hS
    have HS := hideC hS
    clear hS
    have q6 : w6.cell? ⟨w1.heap.size, 32, none⟩ = some (.int .u32 (P.toNat : Int)) := A6.c.at
    go_wp2_with fail
    refine (store_any w6 A6.mem ⟨by omega, Wd.lt P⟩ (Or.inr (Or.inr rfl)) ⟨by omega, Wd.lt X⟩).mono ?_
    rintro e w7 ⟨rfl, m7, g7⟩
    have c7 := Box.grown A6.c g7 (by omega)
    have d7 := Box.grown d6 g7 (by omega)
    have lo7 := below_grown A6.low g7 (by omega) A6.low.size
    have hz7 := g7.size
    clear A6 d6 g7 q6
    go_wp2_with fail
    refine (cells_any w7 m7).mono ?_
    rintro e w8 ⟨v, rfl, o8, l8⟩
    have m8 := m7.below l8
    have c8 := c7.below l8
    have d8 := d7.below l8
    have lo8 := lo7.trans (l8.mono lo7.size)
    have hlen := m7.rise.length
    have hz8 := l8.size
    clear m7 c7 d7 lo7 l8
    go_wp2_with (first | (refine wpList_load_rowG (by rfl) 25 _ rfl w1.heap.size rfl _ _ _ _ c8 Try.underlying25 rfl (infoCs _) ?_))
    refine (step_to HS.out w8 m8).mono ?_
    rintro e w9 ⟨rfl, m9, g9⟩
    have d9 := Box.grown d8 g9 (by omega)
    have o9 := own_kept o8 g9 (by omega)
    have lo9 := below_grown lo8 g9 (by omega) lo8.size
    have hz9 := g9.size
    clear m8 c8 d8 lo8 o8 g9 HS
    obtain ⟨n10, a10⟩ := box_new2 w9 d
    have m10 := m9.below n10
    have d10 := d9.below n10
    have o10 := own_below o9 n10
    have lo10 := lo9.trans (n10.mono lo9.size)
    clear m9 d9 o9 lo9
    go_upto_region 14 with (first | (refine wpList_store_row rfl 25 _ _ rfl w9.heap.size _ rfl rfl _ _ (told_box w9) (infoCs _) (cells_same _ _) (cells_one _) ?_))
    generalize (w9.alloc (.cells (cells nought) 25)).setRow w9.heap.size (cells d) = w10 at n10 a10 m10 d10 o10 lo10 ⊢
    clear n10
    go_wp2_with (first | (refine wpList_load_rowG (by rfl) 25 _ rfl w9.heap.size rfl _ _ _ _ a10 Try.underlying25 rfl (infoCs _) ?_) | (refine wpList_load_rowG (by rfl) 25 _ rfl w4.heap.size rfl _ _ _ _ d10 Try.underlying25 rfl (infoCs _) ?_))
    refine (cells_any w10 m10).mono ?_
    rintro e w11 ⟨u, rfl, o11, l11⟩
    have o12 := own_below o10 l11
    have lo11 := lo10.trans (l11.mono lo10.size)
    clear m10 a10 d10 o10 lo10 l11
    go_wp2_with fail
    refine (same_yes w11 o11 o12 hlen).mono ?_
    rintro e w12 ⟨rfl, n, rfl⟩
    have lo12 := lo11.trans (drewN_low w11 n _)
    clear lo11 o11 o12
    go_wp2_with fail
    refine (fixed4_any _).mono ?_
    rintro e w13 ⟨rfl, l13⟩
    have lo13 := lo12.trans (l13.mono lo12.size)
    clear lo12 l13
    go_wp2_with fail
    go_ret
    exact ⟨rfl, lo13⟩
end Go.Proofs.Ytilphdfobflbiaa
namespace Go.Proofs.Ytilphdfobflbiaa.cpuPlain
open Go.ChangeShapes Go.WideShapes Go.ChangeAt Go.RowKit Go.Joins
set_option linter.unusedVariables false

theorem own : ownKnob Try.prog.godebug = none := by kernel_rfl

set_option maxRecDepth 100000 in
theorem lifted (os : Os) (started : os.Started) (H : Type) (enc : TypeId × Value → H) :
    ReturnsInHanded {} Try.checked os 6 .any (Rows.cpuPlainSpec.pre6 enc Try.prog Try.f6 Rows.cpuPlainRow.domain false) (Rows.cpuPlainSpec.post enc Try.prog Try.f6 false true false false) := by
  refine returnsInHanded_of_change (C := Try.checked) own started (by kernel_rfl) Try.func6
    (ChangeSpec.witness6 (enc := enc) (C := Try.checked) false ⟨#[], #[.agg #[.int .u32 0, .int .u32 0, .int .u32 0, .int .u32 0, .int .u32 0, .int .u32 0, .int .u32 0, .int .u32 0, .int .u32 0, .int .u32 0, .int .u32 0, .int .u32 0, .int .u32 0, .int .u32 0, .int .u32 0, .int .u32 0, .int .u32 0, .int .u32 0, .int .u32 0, .int .u32 0, .int .u32 0, .int .u32 0, .int .u32 0, .int .u32 0, .int .u32 0, .int .u32 0, .int .u32 0, .int .u32 0, .int .u32 0, .int .u32 0, .int .u32 0, .int .u32 0, .int .u32 0, .int .u32 0, .int .u32 0, .string ⟨#[]⟩, .string ⟨#[]⟩, .slice none 0 0, .int .i64 0], .agg #[.int .i64 0, .int .i64 0, .int .i64 0, .int .i64 0, .int .i64 0]], []⟩ 8 (by kernel_rfl) (by kernel_rfl) (by kernel_rfl) (by kernel_rfl)) ?_
  intro W base args ds gs before hval0 hW hcnd _
  have hval : ∀ (j : Nat) t v, Try.f6.params[j]? = some t → args[j]? = some v → Value.okWide Try.prog W .any base t v := hval0
  have hW' := hW
  obtain ⟨p, q, hA0, hV, rfl, hfz, hnd⟩ := hW
  have hA : DataW.TrodAll enc Try.prog W 0 (fun _ => true) true Try.f6.params.toList args.toList ds p := hA0
  rw [Try.params6] at hA hval
  obtain ⟨v0, vs0, d0, ds0, p0, q0, hargs, rfl, rfl, h0, r0⟩ := trodAll_cons hA
  obtain ⟨v1, vs1, d1, ds1, p1, q1, rfl, rfl, rfl, h1, r1⟩ := trodAll_cons r0
  obtain ⟨rfl, rfl, rfl⟩ := trodAll_nil r1
  obtain rfl : args = #[v0, v1] := by cases args; simp_all
  obtain ⟨rfl, rfl⟩ := trodVars_none hV
  have hlt : ∀ x ∈ p0 ++ p1, x.block < W.heap.size := fun x hx => by simpa using hW'.lt x (by simpa using hx)
  have k0 := h0
  have l0 : ∀ x ∈ p0, x.block < W.heap.size := fun x hx => hlt x (by simp [hx])
  have k1 := h1
  have l1 : ∀ x ∈ p1, x.block < W.heap.size := fun x hx => hlt x (by simp [hx])
  obtain ⟨V0, hV0, rfl⟩ := open_world (hval 0 34 v0 rfl rfl) h0
  obtain ⟨i10, i11, i12, i13, i14, rfl, rfl, rfl, u10, u11, u12, u13, u14⟩ := open_inst (hval 1 27 v1 rfl rfl) h1
  clear hA0 hval0
  refine (cpuPlain_walk V0 i10 i11 i12 i13 i14 W hV0).mono fun e W' ⟨he, hg⟩ => ?_
  subst he
  exact ⟨_, rfl, _, _, _, [], _, [], hW', trodAll_mk1 (shut_bool Try.underlying4 _), (trodAll_cons_mk (Below.trod laidOut4 (by kernel_rfl) (of_decide_eq_true (by kernel_rfl)) k0 hg l0) (trodAll_cons_mk (Below.trod laidOut4 (by kernel_rfl) (of_decide_eq_true (by kernel_rfl)) k1 hg l1) trodAll_mk0)), rfl, hg.frame _, fun h => by cases h⟩

theorem over : Rows.cpuPlainRow.holds Try.pinned (OpenSpec.ofChange Rows.cpuPlainSpec) :=
  OpenClaim.holds_of_wide 6 Try.f6 rfl rfl rfl rfl rfl rfl rfl ⟨rfl, rfl, rfl, rfl, rfl⟩ rfl rfl rfl rfl rfl (by kernel_rfl) Try.func6 (by kernel_rfl)
    (of_decide_eq_true (by kernel_rfl)) (by unfold Func.isWrapper; first | (rw [if_pos (by decide +kernel)]; kernel_rfl) | (rw [if_neg (by decide +kernel)]; exact ⟨rfl, rfl⟩))
    (fun os started H enc _ => lifted os started H enc)

theorem proved : Rows.CpuPlainSaid :=
  over
#print axioms proved
end Go.Proofs.Ytilphdfobflbiaa.cpuPlain
