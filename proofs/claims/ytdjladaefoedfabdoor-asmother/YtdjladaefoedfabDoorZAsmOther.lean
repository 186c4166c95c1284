/-
  AsmOther (P5.1, P5.3): an instruction with another register, or number, has another text; of the same kind it begins alike; for every input. What the listed package variables hold is tied to the program by the card.
  The walk of AsmOther.
  The walk of AsmBack.
-/
import Derived.Test.YtdjladaefoedfabDoorRows
import Derived.Test.YtdjladaefoedfabDoorTie
import Derived.Test.YtdjladaefoedfabDoorCards
import Derived.WalkKit
import Derived.ProofKit
import Derived.OpenShut
import Derived.Carry
import Derived.ChangeMaps
import Derived.SevenTiedAt
import Derived.Test.YtdjladaefoedfabDoorZA5
import Derived.Test.YtdjladaefoedfabDoorZA6
import Derived.Test.YtdjladaefoedfabDoorZy
namespace Go.Proofs.YtdjladaefoedfabDoor
open Go.RowKit Ip As Go.Lib
open Classical

/-- Two instructions' boxes. -/
structure BkAt (w : World) (x y : Ins) (W : World) : Prop where
  bx : W.heap[w.heap.size]? = some (.cells #[.int .i64 x.op, .int .i64 x.rd, .int .i64 x.rs1, .int .i64 x.rs2, .int .i64 x.imm] 28 (0, 0))
  yx : W.heap[w.heap.size + 1]? = some (.cells #[.int .i64 y.op, .int .i64 y.rd, .int .i64 y.rs1, .int .i64 y.rs2, .int .i64 y.imm] 28 (0, 0))
  low : Below w.heap.size w W
theorem BkAt.lt {w W : World} {x y : Ins} (h : BkAt w x y W) : w.heap.size + 1 < W.heap.size := (Array.getElem?_eq_some_iff.1 h.yx).1
theorem BkAt.below {w W W' : World} {x y : Ins} (h : BkAt w x y W) (hb : Below W.heap.size W W') : BkAt w x y W' := by
  have := h.lt
  exact ⟨by rw [hb.block _ (by omega)]; exact h.bx, by rw [hb.block _ (by omega)]; exact h.yx, h.low.trans (hb.mono (by omega))⟩
theorem BkAt.alloc {w W : World} {x y : Ins} (h : BkAt w x y W) (o : Obj) : BkAt w x y (W.alloc o) := h.below ((Below.refl _ _).alloc (Nat.le_refl _) _)
theorem BkAt.start (w : World) (x y : Ins) : BkAt w x y ((w.alloc (.cells #[.int .i64 x.op, .int .i64 x.rd, .int .i64 x.rs1, .int .i64 x.rs2, .int .i64 x.imm] 28)).alloc (.cells #[.int .i64 y.op, .int .i64 y.rd, .int .i64 y.rs1, .int .i64 y.rs2, .int .i64 y.imm] 28)) := by
  refine ⟨?_, ?_, ((Below.refl _ _).alloc (Nat.le_refl _) _).alloc (by simp) _⟩
  · rw [((Below.refl (w.heap.size + 1) (w.alloc _)).alloc (by simp) _).block _ (by omega)]; exact heap_alloc_new _ _
  · have := heap_alloc_new (w.alloc (.cells #[.int .i64 x.op, .int .i64 x.rd, .int .i64 x.rs1, .int .i64 x.rs2, .int .i64 x.imm] 28)) (.cells #[.int .i64 y.op, .int .i64 y.rd, .int .i64 y.rs1, .int .i64 y.rs2, .int .i64 y.imm] 28)
    simpa using this
theorem row5 {W : World} {g : Nat} {a b c d e : Int} {t : TypeId} {fr : Nat × Nat} (h : W.heap[g]? = some (.cells #[.int .i64 a, .int .i64 b, .int .i64 c, .int .i64 d, .int .i64 e] t fr)) :
    W.cell? ⟨g, 0, none⟩ = some (.int .i64 a) ∧ W.cell? ⟨g, 1, none⟩ = some (.int .i64 b) ∧ W.cell? ⟨g, 2, none⟩ = some (.int .i64 c) ∧ W.cell? ⟨g, 3, none⟩ = some (.int .i64 d) ∧ W.cell? ⟨g, 4, none⟩ = some (.int .i64 e) := by
  simp only [World.cell?, h]; exact ⟨rfl, rfl, rfl, rfl, rfl⟩
theorem sameX_ins (x y : Ins) : sameX x.op x.rd x.rs1 x.rs2 x.imm y.op y.rd y.rs1 y.rs2 y.imm = decide (x = y) := by
  unfold sameX
  cases x; cases y; simp
theorem cutMin (n : Nat) (m : Int) (hm : m = 100) : min (n : Int) m = ((min n 100 : Nat) : Int) := by omega
theorem txt_len (x : Ins) (h : Fine x) : (txt x).length ≤ 1000 := by
  obtain ⟨⟨d0, d1⟩, ⟨a0, a1⟩, ⟨b0, b1⟩, n0, n1⟩ := h.i64
  have e1 := rg_len x.rd d0 d1
  have e2 := rg_len x.rs1 a0 a1
  have e3 := rg_len x.rs2 b0 b1
  have e4 := Lib.itoa_length_le x.imm n0 n1
  have e5 := name_len x.op
  have e6 := plc_len x h
  unfold txt As.prts
  (repeat' split) <;> first
    | omega
    | (rw [join2]; simp only [List.length_append, List.length_cons, List.length_nil]; omega)
    | (rw [join3]; simp only [List.length_append, List.length_cons, List.length_nil]; omega)
    | (exfalso; simp_all)

theorem cut_take (s : ByteArray) : s.extract 0 (min (s.size : Int) 100).toNat = ⟨(s.data.toList.take 100).toArray⟩ := by
  rw [ext_take]
  congr 2
  have : s.data.toList.length = s.size := (Lib.size_eq s).symm
  by_cases h : s.size ≤ 100
  · rw [List.take_of_length_le (by omega), List.take_of_length_le (by omega)]
  · rw [show (min (s.size : Int) 100).toNat = 100 by omega]
end Go.Proofs.YtdjladaefoedfabDoor
namespace Go.Proofs.YtdjladaefoedfabDoor
open Go.RowKit Ip As Go.Lib
open Classical

theorem txt_name (x : Ins) : ∃ r, txt x = name x.op ++ r := by
  unfold txt; split
  · exact ⟨[], by simp⟩
  · exact ⟨_, rfl⟩
theorem txt_take (x : Ins) : (name x.op).length ≤ (txt x).length ∧ (txt x).take (name x.op).length = name x.op := by
  obtain ⟨r, h⟩ := txt_name x
  rw [h]; simp

set_option maxHeartbeats 4000000 in
set_option maxRecDepth 100000 in
theorem asmOther_both (op rd rs1 rs2 imm d n : Int) (w : World) (hG : Gl w) (hx : (Ins.mk op rd rs1 rs2 imm).ok = true) (hy : (Ins.mk op d rs1 rs2 n).ok = true) :
    Calls Tryd.prog 4 #[(Ins.mk op rd rs1 rs2 imm).val, .int .i64 d, .int .i64 n] w fun e w' => e = .returned (.bool true) ∧ Below w.heap.size w w' := by
  have HG : Hid (Gl w) := hG
  have heql := eqlX
  have hz := zeroX
  have Hx : Hid ((Ins.mk op rd rs1 rs2 imm).ok = true) := hx
  have Hy : Hid ((Ins.mk op d rs1 rs2 n).ok = true) := hy
  obtain ⟨l1, t1⟩ := txt_take ⟨op, rd, rs1, rs2, imm⟩
  obtain ⟨l2, t2⟩ := txt_take ⟨op, d, rs1, rs2, n⟩
  simp only [] at l1 t1 l2 t2
  have s1 := slice_to (txt ⟨op, rd, rs1, rs2, imm⟩) (name op).length l1
  have s2 := slice_to (txt ⟨op, d, rs1, rs2, n⟩) (name op).length l2
  rw [t1] at s1
  rw [t2] at s2
  have g1 : ((name op).length : Int) ≤ ((txt ⟨op, rd, rs1, rs2, imm⟩).length : Int) := by omega
  have g2 : ((name op).length : Int) ≤ ((txt ⟨op, d, rs1, rs2, n⟩).length : Int) := by omega
  have hxy : (txt ⟨op, rd, rs1, rs2, imm⟩ == txt ⟨op, d, rs1, rs2, n⟩) = sameX op rd rs1 rs2 imm op d rs1 rs2 n := by
    rw [show sameX op rd rs1 rs2 imm op d rs1 rs2 n = decide (Ins.mk op rd rs1 rs2 imm = ⟨op, d, rs1, rs2, n⟩) from sameX_ins ⟨op, rd, rs1, rs2, imm⟩ ⟨op, d, rs1, rs2, n⟩]
    by_cases h : (Ins.mk op rd rs1 rs2 imm) = ⟨op, d, rs1, rs2, n⟩
    · rw [h, decide_eq_true rfl, beq_self_eq_true]
    · rw [decide_eq_false h]; exact beq_eq_false_iff_ne.2 (fun e => h (txt_inj Hx.out Hy.out e))
  have HX1 := hideA (print_yes ⟨op, rd, rs1, rs2, imm⟩ _ hx rfl)
  have HY1 := hideA (print_yes ⟨op, d, rs1, rs2, n⟩ _ hy rfl)
  generalize txt ⟨op, rd, rs1, rs2, imm⟩ = A at s1 g1 hxy HX1
  generalize txt ⟨op, d, rs1, rs2, n⟩ = B at s2 g2 hxy HY1
  clear hG hx hy l1 l2 t1 t2
  go_enter Tryd.func4, Tryd.ntmps4
  go_wp2_with fail
  have B0 := BkAt.start w ⟨op, rd, rs1, rs2, imm⟩ ⟨op, d, rs1, rs2, n⟩
  refine (HX1.out _ (HG.out.grow B0.low)).mono ?_
  rintro e w1 ⟨rfl, hb⟩
  have B1 := B0.below hb
  clear hb B0
  obtain ⟨b0, b1, b2, b3, b4⟩ := row5 B1.yx
  go_wp2_with fail
  refine (HY1.out _ (HG.out.grow B1.low)).mono ?_
  rintro e w2 ⟨rfl, hb⟩
  have B2 := B1.below hb
  clear hb B1 b0 b1 b2 b3 b4
  obtain ⟨a0, a1, a2, a3, a4⟩ := row5 B2.bx
  obtain ⟨b0, b1, b2, b3, b4⟩ := row5 B2.yx
  simp only [] at a0 a1 a2 a3 a4 b0 b1 b2 b3 b4
  go_wp2_with (go_at_call 11; refine (name_any op _ (HG.out.grow B2.low)).mono ?_; rintro e w3 ⟨rfl, hw⟩; rw [hw]; clear hw w3)
  refine (fixed5_any _ (HG.out.grow B2.low)).mono ?_
  rintro e w4 ⟨rfl, hb⟩
  have B4 := B2.below hb
  clear hb B2 a0 a1 a2 a3 a4 b0 b1 b2 b3 b4
  go_wp2_with fail
  go_ret
  exact ⟨rfl, B4.low⟩

set_option maxHeartbeats 4000000 in
set_option maxRecDepth 100000 in
theorem asmOther_one (op rd rs1 rs2 imm d n : Int) (w : World) (hG : Gl w) (h : ¬ ((Ins.mk op rd rs1 rs2 imm).ok = true ∧ (Ins.mk op d rs1 rs2 n).ok = true)) :
    Calls Tryd.prog 4 #[(Ins.mk op rd rs1 rs2 imm).val, .int .i64 d, .int .i64 n] w fun e w' => e = .returned (.bool true) ∧ Below w.heap.size w w' := by
  have HG : Hid (Gl w) := hG
  have hz := zeroX
  have HX1 := hideA (print_any ⟨op, rd, rs1, rs2, imm⟩)
  have HY1 := hideA (print_any ⟨op, d, rs1, rs2, n⟩)
  have he : prE ⟨op, rd, rs1, rs2, imm⟩ = 20 ∨ (prE ⟨op, rd, rs1, rs2, imm⟩ = 0 ∧ prE ⟨op, d, rs1, rs2, n⟩ = 20) := by
    unfold prE
    cases h1 : (Ins.mk op rd rs1 rs2 imm).ok
    · exact .inl rfl
    · cases h2 : (Ins.mk op d rs1 rs2 n).ok
      · exact .inr ⟨rfl, rfl⟩
      · exact absurd ⟨h1, h2⟩ h
  generalize prE ⟨op, rd, rs1, rs2, imm⟩ = e1 at he HX1
  generalize prE ⟨op, d, rs1, rs2, n⟩ = e2 at he HY1
  clear hG h
  rcases he with rfl | ⟨rfl, rfl⟩
  all_goals
    go_enter Tryd.func4, Tryd.ntmps4
    go_wp2_with fail
    have B0 := BkAt.start w ⟨op, rd, rs1, rs2, imm⟩ ⟨op, d, rs1, rs2, n⟩
    refine (HX1.out _ (HG.out.grow B0.low)).mono ?_
    rintro e w1 ⟨rfl, hb⟩
    have B1 := B0.below hb
    clear hb B0
    obtain ⟨b0, b1, b2, b3, b4⟩ := row5 B1.yx
    go_wp2_with fail
    refine (HY1.out _ (HG.out.grow B1.low)).mono ?_
    rintro e w2 ⟨rfl, hb⟩
    have B2 := B1.below hb
    clear hb B1 b0 b1 b2 b3 b4
    go_wp2_with (go_at_call 6; refine (fixed5_any _ (HG.out.grow B2.low)).mono ?_; rintro e w4 ⟨rfl, hb⟩)
    go_ret
    exact ⟨rfl, (B2.below hb).low⟩
theorem asmOther_walk (x : Ins) (d n : Int) (w : World) (hG : Gl w) :
    Calls Tryd.prog 4 #[x.val, .int .i64 d, .int .i64 n] w fun e w' => e = .returned (.bool true) ∧ Below w.heap.size w w' := by
  cases x with
  | mk op rd rs1 rs2 imm =>
  by_cases h : (Ins.mk op rd rs1 rs2 imm).ok = true ∧ (Ins.mk op d rs1 rs2 n).ok = true
  · exact asmOther_both op rd rs1 rs2 imm d n w hG h.1 h.2
  · exact asmOther_one op rd rs1 rs2 imm d n w hG h
end Go.Proofs.YtdjladaefoedfabDoor
namespace Go.Proofs.YtdjladaefoedfabDoor.asmOther
open Go.ChangeShapes Go.WideShapes Go.ChangeAt Go.RowKit Ip As
open Go.ChangeMaps (open_string shut_string)
set_option linter.unusedVariables false

theorem own : ownKnob Tryd.prog.godebug = none := by kernel_rfl

set_option maxRecDepth 100000 in
theorem lifted (os : Os) (started : os.Started) (H : Type) (enc : TypeId × Value → H) :
    ReturnsInHanded {} Tryd.checked os 4 .any (fun w args => (Rows.asmOtherSpec.pre enc Tryd.prog Tryd.f4 [] false w args ∧ laidMetH Tryd.prog laid5 w) ∧ sizedMet enc Tryd.prog Tryd.f4 (OpenSpec.ofChange Rows.asmOtherSpec) false w args)
      (Rows.asmOtherSpec.post enc Tryd.prog Tryd.f4 false true false false) := by
  refine returnsInHanded_of_change_and (C := Tryd.checked) (X := fun w _ => laidMetH Tryd.prog laid5 w) (fun _ _ _ hh h => h.of_heap hh) own started (by kernel_rfl) Tryd.func4
    (ChangeSpec.witness_shaped (enc := enc) (C := Tryd.checked) (os := os) (X := fun w _ => laidMetH Tryd.prog laid5 w) false (World.doorLaid Tryd.prog 400 os) #[.agg #[.int .i64 0, .int .i64 0, .int .i64 0, .int .i64 0, .int .i64 0], .int .i64 0, .int .i64 0] 8 rfl (World.shaped_of_RefB (by kernel_rfl) (by kernel_rfl)) (by kernel_rfl) (by kernel_rfl) (by kernel_rfl) (door_met os _)) ?_
  intro W base args ds gs before hval0 hW _ hsz0 hL _
  have hG := gl_of_laid hL
  have hval : ∀ (j : Nat) t v, Tryd.f4.params[j]? = some t → args[j]? = some v → Value.okWide Tryd.prog W .any base t v := hval0
  have hW' := hW
  obtain ⟨p, q, hA0, hV, rfl, hfz, hnd⟩ := hW
  have hA : DataW.TrodAll enc Tryd.prog W 0 (fun _ => true) true Tryd.f4.params.toList args.toList ds p := hA0
  rw [Tryd.params4] at hA hval
  obtain ⟨v0, vs0, d0, ds0, p0, q0, hargs, rfl, rfl, h0, r0⟩ := trodAll_cons hA
  obtain ⟨v1, vs1, d1, ds1, p1, q1, rfl, rfl, rfl, h1, r1⟩ := trodAll_cons r0
  obtain ⟨v2, vs2, d2, ds2, p2, q2, rfl, rfl, rfl, h2, r2⟩ := trodAll_cons r1
  obtain ⟨rfl, rfl, rfl⟩ := trodAll_nil r2
  obtain rfl : args = #[v0, v1, v2] := by cases args; simp_all
  obtain ⟨rfl, rfl⟩ := trodVars_none hV
  have hlt : ∀ x ∈ p0 ++ p1 ++ p2, x.block < W.heap.size := fun x hx => by simpa using hW'.lt x (by simpa using hx)
  have k0 := h0
  have l0 : ∀ x ∈ p0, x.block < W.heap.size := fun x hx => hlt x (by simp [hx])
  have k1 := h1
  have l1 : ∀ x ∈ p1, x.block < W.heap.size := fun x hx => hlt x (by simp [hx])
  have k2 := h2
  have l2 : ∀ x ∈ p2, x.block < W.heap.size := fun x hx => hlt x (by simp [hx])
  obtain ⟨i00, i01, i02, i03, i04, rfl, rfl, rfl, u00, u01, u02, u03, u04⟩ := open_inst (hval 0 28 v0 rfl rfl) h0
  obtain ⟨a1, rfl, rfl, rfl, w1⟩ := open_int Tryd.underlying3 (hval 1 3 v1 rfl rfl) h1
  obtain ⟨a2, rfl, rfl, rfl, w2⟩ := open_int Tryd.underlying3 (hval 2 3 v2 rfl rfl) h2
  clear hA0 hval0
  refine (asmOther_walk ⟨i00, i01, i02, i03, i04⟩ a1 a2 W hG).mono fun e W' ⟨he, hg⟩ => ?_
  subst he
  exact ⟨_, rfl, _, _, _, [], _, [], hW', trodAll_mk1 (shut_bool Tryd.underlying4 _), (trodAll_cons_mk (Below.trod laidOut5 (by kernel_rfl) (of_decide_eq_true (by kernel_rfl)) k0 hg l0) (trodAll_cons_mk (Below.trod laidOut5 (by kernel_rfl) (of_decide_eq_true (by kernel_rfl)) k1 hg l1) (trodAll_cons_mk (Below.trod laidOut5 (by kernel_rfl) (of_decide_eq_true (by kernel_rfl)) k2 hg l2) trodAll_mk0))), rfl, hg.frame _, fun h => by cases h⟩

theorem over : Rows.asmOtherRow.holds Tryd.pinned (OpenSpec.ofChange Rows.asmOtherSpec) :=
  OpenClaim.holds_of_wide 4 Tryd.f4 rfl rfl rfl rfl rfl rfl rfl ⟨rfl, rfl, rfl, rfl, rfl⟩ rfl rfl rfl rfl rfl (by kernel_rfl) Tryd.func4 (by kernel_rfl)
    (of_decide_eq_true (by kernel_rfl)) (by unfold Func.isWrapper; first | (rw [if_pos (by decide +kernel)]; kernel_rfl) | (rw [if_neg (by decide +kernel)]; exact ⟨rfl, rfl⟩))
    (fun os started H enc _ => lifted os started H enc)

theorem proved : Rows.AsmOtherCardSaid :=
  Claim7.holds_tied_plain_at .later [] [.data, .data, .data, .sentinel, .sentinel, .data] true Rows.asmOtherCard.stood.harness true
    over (fun _ h => by cases h) (by kernel_rfl) (fun _ h => by cases h) asmOther_row_tie rfl ⟨rfl, rfl⟩ (by kernel_rfl) rfl
    (fun f fn hf hfn => by
      obtain rfl : f = 4 := Option.some.inj ((show Tryd.prog.funcNamed "whetstone/whetstonelaw05.AsmOther" = some 4 by kernel_rfl).symm.trans hf) |>.symm
      obtain rfl : fn = Tryd.f4 := (Option.some.inj (Tryd.func4.symm.trans hfn)).symm
      exact ⟨by kernel_rfl, fun j t ht => by
        rw [Tryd.params4] at ht
        have hm : t ∈ [28, 3, 3] := by simpa using Array.mem_of_getElem? ht
        have hall : ([28, 3, 3].all fun u => !Tryd.prog.wantsStandIn u) = true := by kernel_rfl
        exact (show Tryd.prog.wantsStandIn t = false by simpa using List.all_eq_true.1 hall t hm)⟩)
    (by kernel_rfl)
#print axioms proved
end Go.Proofs.YtdjladaefoedfabDoor.asmOther
