/-
  LiveDead: what an instruction sets and does not need does not count ahead of it.
  The walk of LiveDead.
-/
import Derived.Test.YtcffpmicencfpaaRows
import Derived.WalkKit
import Derived.ProofKit
import Derived.OpenShut
import Derived.Carry
import Derived.ChangeMaps
import Derived.Test.YtcffpmicencfpaaZC1
import Derived.Test.YtcffpmicencfpaaZX6
import Derived.Test.YtcffpmicencfpaaZY1
import Derived.Test.YtcffpmicencfpaaZY5
import Derived.Test.YtcffpmicencfpaaZy
namespace Go.Proofs.Ytcffpmicencfpaa
open Go.RowKit Go.Lib Go.Sort Ip Bl Lv Pm
set_option linter.unusedSimpArgs false
set_option linter.unusedVariables false

theorem dead_bits (x : Ins) (b U S N : BitVec 32) (hU : usesB x = U) (hS : setsB x = S) (hN : backB [x] b = N) :
    bits .and .u32 (N.toNat : Int) (U.toNat : Int) = (U.toNat : Int) ∧ (∃ A : BitVec 32, bits .and .u32 (N.toNat : Int) (S.toNat : Int) = (A.toNat : Int) ∧ bits .andNot .u32 (A.toNat : Int) (U.toNat : Int) = 0) ∧
    (∃ X O P : BitVec 32, bits .xor .u32 (N.toNat : Int) (b.toNat : Int) = (X.toNat : Int) ∧ bits .or .u32 (U.toNat : Int) (S.toNat : Int) = (O.toNat : Int) ∧ bits .or .u32 (O.toNat : Int) 1 = (P.toNat : Int) ∧ bits .andNot .u32 (X.toNat : Int) (P.toNat : Int) = 0 ∧ bits .and .u32 (O.toNat : Int) 1 = 0) := by
  have h1 := dead_uses x b
  have h2 := dead_sets x b
  have h3 := dead_else x b
  have h4 := dead_low x
  rw [hU, hN] at h1
  rw [hU, hS, hN] at h2
  rw [hU, hS, hN] at h3
  rw [hU, hS] at h4
  refine ⟨by rw [Wd.and_, h1], ⟨_, Wd.and_ N S, by rw [Wd.andNot_, h2]; rfl⟩, ⟨_, _, _, Wd.xor_ N b, Wd.or_ U S, Wd.or_ (U ||| S) (BitVec.ofNat 32 1), by rw [Wd.andNot_, h3]; rfl, ?_⟩⟩
  have := Wd.and_ (U ||| S) (BitVec.ofNat 32 1)
  rw [h4] at this
  exact this
/-- While LiveDead is at work: its instruction's box. -/
structure Dw (w : World) (op rd rs1 rs2 imm : Int) (W : World) : Prop where
  xb : W.heap[w.heap.size]? = some (.cells #[.int .i64 op, .int .i64 rd, .int .i64 rs1, .int .i64 rs2, .int .i64 imm] 23 (0, 0))
  low : Below w.heap.size w W
theorem Dw.ext {w W W' : World} {op rd rs1 rs2 imm : Int} (h : Dw w op rd rs1 rs2 imm W) (hb : Below W.heap.size W W') : Dw w op rd rs1 rs2 imm W' := ⟨keptN hb h.xb, h.low.trans (hb.mono h.low.size)⟩
theorem Dw.new (w : World) (op rd rs1 rs2 imm : Int) : Dw w op rd rs1 rs2 imm (w.alloc (.cells #[.int .i64 op, .int .i64 rd, .int .i64 rs1, .int .i64 rs2, .int .i64 imm] 23)) := ⟨heap_alloc_new _ _, (Below.refl _ w).alloc (Nat.le_refl _) _⟩
set_option maxHeartbeats 4000000 in
set_option maxRecDepth 100000 in
theorem liveDead_walk (HL : LvAll) (op rd rs1 rs2 imm : Int) (b : BitVec 32) (w : World) :
    Calls Try.prog 6 #[.agg #[.int .i64 op, .int .i64 rd, .int .i64 rs1, .int .i64 rs2, .int .i64 imm], .int .u32 (b.toNat : Int)] w fun e w' => e = .returned (.bool true) ∧ Below w.heap.size w w' := by
  obtain ⟨U, hU⟩ : ∃ U, usesB ⟨op, rd, rs1, rs2, imm⟩ = U := ⟨_, rfl⟩
  obtain ⟨S, hS⟩ : ∃ S, setsB ⟨op, rd, rs1, rs2, imm⟩ = S := ⟨_, rfl⟩
  obtain ⟨N, hN⟩ : ∃ N, backB [⟨op, rd, rs1, rs2, imm⟩] b = N := ⟨_, rfl⟩
  have HBT := hideE (dead_bits ⟨op, rd, rs1, rs2, imm⟩ b U S N hU hS hN)
  have HU : Hid (∀ W, Calls Try.prog 8 #[.agg #[.int .i64 op, .int .i64 rd, .int .i64 rs1, .int .i64 rs2, .int .i64 imm]] W fun e w' => e = .returned (.int .u32 (U.toNat : Int)) ∧ Below W.heap.size W w') := hideE (fun W => by have h := HL.uses ⟨op, rd, rs1, rs2, imm⟩ W; rw [hU] at h; exact h)
  have HS : Hid (∀ W, Calls Try.prog 10 #[.agg #[.int .i64 op, .int .i64 rd, .int .i64 rs1, .int .i64 rs2, .int .i64 imm]] W fun e w' => e = .returned (.int .u32 (S.toNat : Int)) ∧ Below W.heap.size W w') := hideE (fun W => by have h := HL.sets ⟨op, rd, rs1, rs2, imm⟩ W; rw [hS] at h; exact h)
  have HB : Hid (∀ W : World, Calls Try.prog 12 #[.slice (some ⟨W.heap.size, 0, none⟩) 1 1, .int .u32 (b.toNat : Int)] (W.alloc (.cells #[.int .i64 op, .int .i64 rd, .int .i64 rs1, .int .i64 rs2, .int .i64 imm] 23)) fun e w' => e = .returned (.int .u32 (N.toNat : Int)) ∧ Below (W.alloc (.cells #[.int .i64 op, .int .i64 rd, .int .i64 rs1, .int .i64 rs2, .int .i64 imm] 23)).heap.size (W.alloc (.cells #[.int .i64 op, .int .i64 rd, .int .i64 rs1, .int .i64 rs2, .int .i64 imm] 23)) w') := hideE (fun W => by
    have h := HL.back [⟨op, rd, rs1, rs2, imm⟩] _ b (by simp) _ (sln_lit W #[.int .i64 op, .int .i64 rd, .int .i64 rs1, .int .i64 rs2, .int .i64 imm] [⟨op, rd, rs1, rs2, imm⟩] rfl)
    rw [hN] at h; exact h)
  have h0 := Dw.new w op rd rs1 rs2 imm
  obtain ⟨c0, c1, c2, c3, c4⟩ := five h0.xb
  have H0 := hideE h0
  have HLL := hideE HL
  clear hU hS hN h0 HL
  go_enter Try.func6, Try.ntmps6
  go_upto_region 1 with fail
  go_cut [5, 6] (fun s5 s6 W => s5 = .int .u32 (U.toNat : Int) ∧ s6 = .int .u32 (S.toNat : Int) ∧ Dw w op rd rs1 rs2 imm W)
  case first =>
    go_region_with (first
      | (go_at_call 8; refine (HU.out _).mono ?_; rintro e w1 ⟨rfl, hb1⟩; obtain ⟨d0, d1, d2, d3, d4⟩ := five (keptN hb1 H0.out.xb))
      | (go_at_call 10; refine (HS.out _).mono ?_; rintro e w2 ⟨rfl, hb2⟩))
    all_goals
      go_wp2_with fail
      go_meet
      case rel => exact ⟨rfl, rfl, ((H0.out.ext (Below.refl _ _).drew).ext hb1).ext hb2⟩
  case rest =>
    clear c0 c1 c2 c3 c4 H0 HU HS
    obtain ⟨rfl, rfl, h1⟩ := hcut
    have hxb := h1.xb
    have H1 := hideE h1
    clear h1
    go_upto_region 3 with (first
      | (refine wpList_load_row rfl 23 _ rfl w.heap.size rfl _ _ _ _ hxb Try.underlying23 rfl (by kernel_rfl) ?_)
      | (go_at_call 12; refine (HB.out _).mono ?_; rintro e w3 ⟨rfl, hb3⟩))
    have h3 := (H1.out.ext ((Below.refl _ wc).alloc (Nat.le_refl _) (.cells #[.int .i64 op, .int .i64 rd, .int .i64 rs1, .int .i64 rs2, .int .i64 imm] 23))).ext hb3
    have HLO := hideE h3.low
    obtain ⟨b1, ⟨A, b2, b3⟩, X, O, P, b4, b5, b6, b7, b8⟩ := HBT.out
    clear hxb HB H1 hb3 h3
    go_wp2_with (go_at_call 7; refine (fixed9_any HLL.out _).mono ?_; rintro e wf ⟨rfl, hbf⟩)
    go_ret
    exact ⟨rfl, HLO.out.trans (hbf.mono HLO.out.size)⟩
end Go.Proofs.Ytcffpmicencfpaa
namespace Go.Proofs.Ytcffpmicencfpaa.liveDead
open Go.ChangeShapes Go.WideShapes Go.ChangeAt Go.RowKit
open Go.ChangeMaps (open_string shut_string)
set_option linter.unusedVariables false

theorem own : ownKnob Try.prog.godebug = none := by kernel_rfl

set_option maxRecDepth 100000 in
theorem lifted (os : Os) (started : os.Started) (H : Type) (enc : TypeId × Value → H) :
    ReturnsInHanded {} Try.checked os 6 .any (Rows.liveDeadSpec.pre6 enc Try.prog Try.f6 Rows.liveDeadRow.domain false) (Rows.liveDeadSpec.post enc Try.prog Try.f6 false true false false) := by
  refine returnsInHanded_of_change (C := Try.checked) own started (by kernel_rfl) Try.func6
    (ChangeSpec.witness6 (enc := enc) (C := Try.checked) false ⟨#[], #[.agg #[.int .i64 0, .int .i64 0, .int .i64 0, .int .i64 0, .int .i64 0], .int .u32 0], []⟩ 8 (by kernel_rfl) (by kernel_rfl) (by kernel_rfl) (by kernel_rfl)) ?_
  intro W base args ds gs before hval0 hW hcnd _
  have hval : ∀ (j : Nat) t v, Try.f6.params[j]? = some t → args[j]? = some v → Value.okWide Try.prog W .any base t v := hval0
  have hW' := hW
  obtain ⟨p, q, hA0, hV, rfl, hfz, hnd⟩ := hW
  have hA : DataW.TrodAll enc Try.prog W 0 (fun _ => true) true Try.f6.params.toList args.toList ds p := hA0
  rw [Try.params6] at hA hval
  obtain ⟨v0, vs0, d0, ds0, p0, q0, hargs, rfl, rfl, h0, r0⟩ := trodAll_cons hA
  obtain ⟨v1, vs1, d1, ds1, p1, q1, rfl, rfl, rfl, h1, r1⟩ := trodAll_cons r0
  obtain ⟨rfl, rfl, rfl⟩ := trodAll_nil r1
  obtain rfl : args = #[v0, v1] := by cases args; simp_all
  obtain ⟨rfl, rfl⟩ := trodVars_none hV
  have hlt : ∀ x ∈ p0 ++ p1, x.block < W.heap.size := fun x hx => by simpa using hW'.lt x (by simpa using hx)
  have k0 := h0
  have l0 : ∀ x ∈ p0, x.block < W.heap.size := fun x hx => hlt x (by simp [hx])
  have k1 := h1
  have l1 : ∀ x ∈ p1, x.block < W.heap.size := fun x hx => hlt x (by simp [hx])
  obtain ⟨i00, i01, i02, i03, i04, rfl, rfl, rfl, w00, w01, w02, w03, w04⟩ := open_inst (hval 0 23 v0 rfl rfl) h0
  obtain ⟨a1, rfl, rfl, rfl, w1⟩ := open_int Try.underlying25 (hval 1 25 v1 rfl rfl) h1
  obtain ⟨x1, e1⟩ := u32_of a1 w1
  subst e1
  clear hA0 hval0
  refine (liveDead_walk lv9 i00 i01 i02 i03 i04 x1 W).mono fun e W' ⟨he, hg⟩ => ?_
  subst he
  exact ⟨_, rfl, _, _, _, [], _, [], hW', trodAll_mk1 (shut_bool Try.underlying4 _), (trodAll_cons_mk (Below.trod laidOut6 (by kernel_rfl) (of_decide_eq_true (by kernel_rfl)) k0 hg l0) (trodAll_cons_mk (Below.trod laidOut6 (by kernel_rfl) (of_decide_eq_true (by kernel_rfl)) k1 hg l1) trodAll_mk0)), rfl, hg.frame _, fun h => by cases h⟩

theorem over : Rows.liveDeadRow.holds Try.pinned (OpenSpec.ofChange Rows.liveDeadSpec) :=
  OpenClaim.holds_of_wide 6 Try.f6 rfl rfl rfl rfl rfl rfl rfl ⟨rfl, rfl, rfl, rfl, rfl⟩ rfl rfl rfl rfl rfl (by kernel_rfl) Try.func6 (by kernel_rfl)
    (of_decide_eq_true (by kernel_rfl)) (by unfold Func.isWrapper; first | (rw [if_pos (by decide +kernel)]; kernel_rfl) | (rw [if_neg (by decide +kernel)]; exact ⟨rfl, rfl⟩))
    (fun os started H enc _ => lifted os started H enc)

theorem proved : Rows.LiveDeadSaid :=
  over
#print axioms proved
end Go.Proofs.Ytcffpmicencfpaa.liveDead
