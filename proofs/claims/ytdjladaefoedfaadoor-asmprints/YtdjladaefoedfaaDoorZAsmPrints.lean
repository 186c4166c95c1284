/-
  AsmPrints (P5.1): the text of any instruction, the name of any kind, and the kind of any name, is as the document says; for every input. What the listed package variables hold is tied to the program by the card.
  The walk of AsmPrints.
-/
import Derived.Test.YtdjladaefoedfaaDoorRows
import Derived.Test.YtdjladaefoedfaaDoorTie
import Derived.Test.YtdjladaefoedfaaDoorCards
import Derived.WalkKit
import Derived.ProofKit
import Derived.OpenShut
import Derived.Carry
import Derived.ChangeMaps
import Derived.SevenTiedAt
import Derived.Test.YtdjladaefoedfaaDoorZA5
import Derived.Test.YtdjladaefoedfaaDoorZA6
import Derived.Test.YtdjladaefoedfaaDoorZA8
import Derived.Test.YtdjladaefoedfaaDoorZy
namespace Go.Proofs.YtdjladaefoedfaaDoor
open Go.RowKit Ip As Go.Lib

theorem nameB (op : Int) (w : World) (hG : Gl w) : Calls Tryd.prog 12 #[.int .i64 op] w fun e w' => e = .returned (.string ⟨(name op).toArray⟩) ∧ Below w.heap.size w w' :=
  (name_any op w hG).mono fun e w' ⟨he, hw⟩ => ⟨he, by rw [hw]; exact Below.refl _ _⟩
theorem byB (s : ByteArray) (w : World) (hG : Gl w) : Calls Tryd.prog 14 #[.string s] w fun e w' => e = .returned (.int .i64 (byV s.data.toList)) ∧ Below w.heap.size w w' :=
  (by_any s w hG).mono fun e w' ⟨he, hw⟩ => ⟨he, by rw [hw]; exact Below.refl _ _⟩
set_option maxHeartbeats 4000000 in
set_option maxRecDepth 100000 in
theorem asmPrints_walk (x : Ins) (s : ByteArray) (w : World) (hG : Gl w) (_ : s.size ≤ 9223372036854775807) :
    Calls Tryd.prog 3 #[x.val, .string s] w fun e w' => e = .returned (.bool true) ∧ Below w.heap.size w w' := by
  have HG : Hid (Gl w) := hG
  clear hG
  cases x with
  | mk op rd rs1 rs2 imm =>
  have HP : Hid (∀ W, Gl W → Calls Tryd.prog 9 #[(Ins.mk op rd rs1 rs2 imm).val] W fun e w' => e = .returned (.tuple #[.string ⟨(prV ⟨op, rd, rs1, rs2, imm⟩).toArray⟩, .int .i64 (prE ⟨op, rd, rs1, rs2, imm⟩)]) ∧ Below W.heap.size W w') := fun W h => print_any _ W h
  have HR : Hid (∀ W, Calls Tryd.prog 10 #[(Ins.mk op rd rs1 rs2 imm).val] W fun e w' => e = .returned (.tuple #[.string ⟨(prV ⟨op, rd, rs1, rs2, imm⟩).toArray⟩, .int .i64 (prE ⟨op, rd, rs1, rs2, imm⟩)]) ∧ Below W.heap.size W w') := fun W => rprint_any _ W
  generalize prV ⟨op, rd, rs1, rs2, imm⟩ = T at HP HR
  generalize prE ⟨op, rd, rs1, rs2, imm⟩ = E at HP HR
  go_enter Tryd.func3, Tryd.ntmps3
  go_wp2_with fail
  have HX : HeldX w op rd rs1 rs2 imm _ := HeldX.start w op rd rs1 rs2 imm 23
  refine (HP.out _ (HX.gl HG.out)).mono ?_
  rintro e w1 ⟨rfl, hb⟩
  have HX1 := HX.below hb
  have HX1' := HX1
  obtain ⟨x0, x1, x2, x3, x4, _, _⟩ := HX1'
  clear hb HX
  go_wp2_with fail
  refine (HR.out _).mono ?_
  rintro e w2 ⟨rfl, hb⟩
  have HX : Hid (HeldX w op rd rs1 rs2 imm w2) := HX1.below hb
  clear x0 x1 x2 x3 x4 hb HX1
  go_wp2_with fail
  go_region_held3 (fun w' => w'.cell? ⟨w.heap.size, 0, none⟩ = some (.int .i64 op) ∧ w'.cell? ⟨w.heap.size, 1, none⟩ = some (.int .i64 rd) ∧ w'.cell? ⟨w.heap.size, 2, none⟩ = some (.int .i64 rs1) ∧ w'.cell? ⟨w.heap.size, 3, none⟩ = some (.int .i64 rs2) ∧ w'.cell? ⟨w.heap.size, 4, none⟩ = some (.int .i64 imm) ∧ Below w.heap.size w w' ∧ w.heap.size < w'.heap.size)
    ((show HeldX w op rd rs1 rs2 imm _; with_reducible (repeat (first | assumption | exact HX.out | refine HeldX.drew ?_ | refine HeldX.alloc ?_ _))))
    (first
      | (go_at_call 11; refine (fixed5_any _ ((show HeldX w op rd rs1 rs2 imm _ by assumption).gl HG.out)).mono ?_; rintro e w3 ⟨rfl, hk⟩; have hS : HeldX w op rd rs1 rs2 imm w3 := HeldX.below (by assumption) hk)
      | (go_at_call 12; refine (nameB op _ ((show HeldX w op rd rs1 rs2 imm _ by assumption).gl HG.out)).mono ?_; rintro e w3 ⟨rfl, hk⟩; have hS : HeldX w op rd rs1 rs2 imm w3 := HeldX.below (by assumption) hk)
      | (go_at_call 13; refine (rname_any op _).mono ?_; rintro e w3 ⟨rfl, hk⟩; have hS : HeldX w op rd rs1 rs2 imm w3 := HeldX.below (by assumption) hk)
      | (go_at_call 14; refine (byB s _ ((show HeldX w op rd rs1 rs2 imm _ by assumption).gl HG.out)).mono ?_; rintro e w3 ⟨rfl, hk⟩; have hS : HeldX w op rd rs1 rs2 imm w3 := HeldX.below (by assumption) hk)
      | (go_at_call 15; refine (rby_any s _).mono ?_; rintro e w3 ⟨rfl, hk⟩; have hS : HeldX w op rd rs1 rs2 imm w3 := HeldX.below (by assumption) hk))
  have hB := hS.2.2.2.2.2.1
  go_wp2
  go_ret
  exact ⟨rfl, hB⟩
end Go.Proofs.YtdjladaefoedfaaDoor
namespace Go.Proofs.YtdjladaefoedfaaDoor.asmPrints
open Go.ChangeShapes Go.WideShapes Go.ChangeAt Go.RowKit Ip As
open Go.ChangeMaps (open_string shut_string)
set_option linter.unusedVariables false

theorem own : ownKnob Tryd.prog.godebug = none := by kernel_rfl

set_option maxRecDepth 100000 in
theorem lifted (os : Os) (started : os.Started) (H : Type) (enc : TypeId × Value → H) :
    ReturnsInHanded {} Tryd.checked os 3 .any (fun w args => (Rows.asmPrintsSpec.pre enc Tryd.prog Tryd.f3 [] false w args ∧ laidMetH Tryd.prog laid5 w) ∧ sizedMet enc Tryd.prog Tryd.f3 (OpenSpec.ofChange Rows.asmPrintsSpec) false w args)
      (Rows.asmPrintsSpec.post enc Tryd.prog Tryd.f3 false true false false) := by
  refine returnsInHanded_of_change_and (C := Tryd.checked) (X := fun w _ => laidMetH Tryd.prog laid5 w) (fun _ _ _ hh h => h.of_heap hh) own started (by kernel_rfl) Tryd.func3
    (ChangeSpec.witness_shaped (enc := enc) (C := Tryd.checked) (os := os) (X := fun w _ => laidMetH Tryd.prog laid5 w) false (World.doorLaid Tryd.prog 400 os) #[.agg #[.int .i64 0, .int .i64 0, .int .i64 0, .int .i64 0, .int .i64 0], .string ⟨#[]⟩] 8 rfl (World.shaped_of_RefB (by kernel_rfl) (by kernel_rfl)) (by kernel_rfl) (by kernel_rfl) (by kernel_rfl) (door_met os _)) ?_
  intro W base args ds gs before hval0 hW _ hsz0 hL _
  have hG := gl_of_laid hL
  have hval : ∀ (j : Nat) t v, Tryd.f3.params[j]? = some t → args[j]? = some v → Value.okWide Tryd.prog W .any base t v := hval0
  have hW' := hW
  obtain ⟨p, q, hA0, hV, rfl, hfz, hnd⟩ := hW
  have hA : DataW.TrodAll enc Tryd.prog W 0 (fun _ => true) true Tryd.f3.params.toList args.toList ds p := hA0
  rw [Tryd.params3] at hA hval
  obtain ⟨v0, vs0, d0, ds0, p0, q0, hargs, rfl, rfl, h0, r0⟩ := trodAll_cons hA
  obtain ⟨v1, vs1, d1, ds1, p1, q1, rfl, rfl, rfl, h1, r1⟩ := trodAll_cons r0
  obtain ⟨rfl, rfl, rfl⟩ := trodAll_nil r1
  obtain rfl : args = #[v0, v1] := by cases args; simp_all
  obtain ⟨rfl, rfl⟩ := trodVars_none hV
  have hlt : ∀ x ∈ p0 ++ p1, x.block < W.heap.size := fun x hx => by simpa using hW'.lt x (by simpa using hx)
  have k0 := h0
  have l0 : ∀ x ∈ p0, x.block < W.heap.size := fun x hx => hlt x (by simp [hx])
  have k1 := h1
  have l1 : ∀ x ∈ p1, x.block < W.heap.size := fun x hx => hlt x (by simp [hx])
  obtain ⟨i00, i01, i02, i03, i04, rfl, rfl, rfl, u00, u01, u02, u03, u04⟩ := open_inst (hval 0 23 v0 rfl rfl) h0
  obtain ⟨s1, rfl, rfl, rfl, w1⟩ := open_string Tryd.underlying9 (hval 1 9 v1 rfl rfl) h1
  have b1 : s1.size ≤ 9223372036854775807 := by unfold maxLen at w1; omega
  clear hA0 hval0
  refine (asmPrints_walk ⟨i00, i01, i02, i03, i04⟩ s1 W hG b1).mono fun e W' ⟨he, hg⟩ => ?_
  subst he
  exact ⟨_, rfl, _, _, _, [], _, [], hW', trodAll_mk1 (shut_bool Tryd.underlying4 _), (trodAll_cons_mk (Below.trod laidOut5 (by kernel_rfl) (of_decide_eq_true (by kernel_rfl)) k0 hg l0) (trodAll_cons_mk (Below.trod laidOut5 (by kernel_rfl) (of_decide_eq_true (by kernel_rfl)) k1 hg l1) trodAll_mk0)), rfl, hg.frame _, fun h => by cases h⟩

theorem over : Rows.asmPrintsRow.holds Tryd.pinned (OpenSpec.ofChange Rows.asmPrintsSpec) :=
  OpenClaim.holds_of_wide 3 Tryd.f3 rfl rfl rfl rfl rfl rfl rfl ⟨rfl, rfl, rfl, rfl, rfl⟩ rfl rfl rfl rfl rfl (by kernel_rfl) Tryd.func3 (by kernel_rfl)
    (of_decide_eq_true (by kernel_rfl)) (by unfold Func.isWrapper; first | (rw [if_pos (by decide +kernel)]; kernel_rfl) | (rw [if_neg (by decide +kernel)]; exact ⟨rfl, rfl⟩))
    (fun os started H enc _ => lifted os started H enc)

theorem proved : Rows.AsmPrintsCardSaid :=
  Claim7.holds_tied_plain_at .later [] [.data, .data, .data, .sentinel, .sentinel, .data] true Rows.asmPrintsCard.stood.harness true
    over (fun _ h => by cases h) (by kernel_rfl) (fun _ h => by cases h) asmPrints_row_tie rfl ⟨rfl, rfl⟩ (by kernel_rfl) rfl
    (fun f fn hf hfn => by
      obtain rfl : f = 3 := Option.some.inj ((show Tryd.prog.funcNamed "whetstone/whetstonelaw05.AsmPrints" = some 3 by kernel_rfl).symm.trans hf) |>.symm
      obtain rfl : fn = Tryd.f3 := (Option.some.inj (Tryd.func3.symm.trans hfn)).symm
      exact ⟨by kernel_rfl, fun j t ht => by
        rw [Tryd.params3] at ht
        have hm : t ∈ [23, 9] := by simpa using Array.mem_of_getElem? ht
        have hall : ([23, 9].all fun u => !Tryd.prog.wantsStandIn u) = true := by kernel_rfl
        exact (show Tryd.prog.wantsStandIn t = false by simpa using List.all_eq_true.1 hall t hm)⟩)
    (by kernel_rfl)
#print axioms proved
end Go.Proofs.YtdjladaefoedfaaDoor.asmPrints
