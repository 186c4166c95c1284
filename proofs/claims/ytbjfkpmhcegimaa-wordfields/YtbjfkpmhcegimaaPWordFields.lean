/-
  WordFields answers true for every word w and every place o. There are no conditions.
-/
import Derived.Test.YtbjfkpmhcegimaaRows
import Derived.WalkKit
import Derived.ProofKit
import Derived.OpenShut
import Derived.Lib.SmallJoins
import Derived.Test.YtbjfkpmhcegimaaLFields
namespace Go.Proofs.Ytbjfkpmhcegimaa.wordFields
open Go.ChangeShapes Go.WideShapes Go.ChangeAt Go.RowKit Go.Joins
set_option linter.unusedVariables false

theorem own : ownKnob Try.prog.godebug = none := by kernel_rfl
theorem cellsP : Try.prog.cellsOf 24 = 3 := by kernel_rfl

set_option maxRecDepth 100000 in
theorem lifted (os : Os) (started : os.Started) (H : Type) (enc : TypeId × Value → H) :
    ReturnsInHanded {} Try.checked os 3 .any (Rows.wordFieldsSpec.pre6 enc Try.prog Try.f3 Rows.wordFieldsRow.domain false) (Rows.wordFieldsSpec.post enc Try.prog Try.f3 false true false false) := by
  refine returnsInHanded_of_change (C := Try.checked) own started (by kernel_rfl) Try.func3
    (ChangeSpec.witness6 (enc := enc) (C := Try.checked) false ⟨#[], #[.int .u32 0, .agg #[.int .i64 0, .int .i64 0, .int .u32 0]], []⟩ 8 (by kernel_rfl) (by kernel_rfl) (by kernel_rfl) (by kernel_rfl)) ?_
  intro W base args ds gs before hval0 hW hcnd _
  have hval : ∀ (j : Nat) t v, Try.f3.params[j]? = some t → args[j]? = some v → Value.okWide Try.prog W .any base t v := hval0
  have hW' := hW
  obtain ⟨p, q, hA0, hV, rfl, hfz, hnd⟩ := hW
  have hA : DataW.TrodAll enc Try.prog W 0 (fun _ => true) true Try.f3.params.toList args.toList ds p := hA0
  rw [Try.params3] at hA hval
  obtain ⟨v0, vs0, d0, ds0, p0, q0, hargs, rfl, rfl, h0, r0⟩ := trodAll_cons hA
  obtain ⟨v1, vs1, d1, ds1, p1, q1, rfl, rfl, rfl, h1, r1⟩ := trodAll_cons r0
  obtain ⟨rfl, rfl, rfl⟩ := trodAll_nil r1
  obtain rfl : args = #[v0, v1] := by cases args; simp_all
  obtain ⟨rfl, rfl⟩ := trodVars_none hV
  obtain ⟨a0, rfl, rfl, rfl, w0⟩ := open_int Try.underlying22 (hval 0 22 v0 rfl rfl) h0
  obtain ⟨c0, c1, c2, y0, y1, y2, m, rfl, rfl, rfl, hy0, hy1, hy2⟩ := open_agg3 Try.underlying24 (by kernel_rfl) cellsP (hval 1 24 v1 rfl rfl) h1
  obtain ⟨at0, e0, rfl, wat⟩ := DataW.trod_int Try.underlying3 hy0
  obtain ⟨n0, e1, rfl, wn⟩ := DataW.trod_int Try.underlying3 hy1
  obtain ⟨z0, e2, rfl, wz⟩ := DataW.trod_int Try.underlying22 hy2
  simp at e0 e1 e2
  subst e0 e1 e2
  have structReads : ∀ (W' : World) (sp : Nat → Bool), DataW.Trod enc Try.prog W' 0 sp true 24 (.agg #[.int .i64 at0, .int .i64 n0, .int .u32 z0]) (.agg [.lit (.int .i64 at0), .lit (.int .i64 n0), .lit (.int .u32 z0)]) [] := fun W' sp =>
    shut_agg3 (y0 := (.lit (.int .i64 at0), [])) (y1 := (.lit (.int .i64 n0), [])) (y2 := (.lit (.int .u32 z0), [])) Try.underlying24 (by kernel_rfl) cellsP ⟨1, by simp [DataW.trod, Try.underlying3, wat]⟩ ⟨1, by simp [DataW.trod, Try.underlying3, wn]⟩ ⟨1, by simp [DataW.trod, Try.underlying22, wz]⟩
  clear hA0 hval0
  simp only [List.append_nil] at hW'
  obtain ⟨x0, e0⟩ := Wd.of_int a0 (bounds_u32 w0).1 (bounds_u32 w0).2
  obtain ⟨xz, ez⟩ := Wd.of_int z0 (bounds_u32 wz).1 (bounds_u32 wz).2
  subst e0 ez
  refine (wordFields_walk x0 at0 n0 xz W).mono fun e W' ⟨he, hg⟩ => ?_
  subst he
  exact ⟨_, rfl, _, _, _, [], _, [], hW', trodAll_mk1 (shut_bool Try.underlying4 _), (fun sp => (trodAll_cons_mk (shut_int Try.underlying22 w0) (trodAll_cons_mk (structReads _ sp) trodAll_mk0))) _, rfl, hg.frame _, fun h => by cases h⟩

theorem over : Rows.wordFieldsRow.holds Try.pinned (OpenSpec.ofChange Rows.wordFieldsSpec) :=
  OpenClaim.holds_of_wide 3 Try.f3 rfl rfl rfl rfl rfl rfl rfl ⟨rfl, rfl, rfl, rfl, rfl⟩ rfl rfl rfl rfl rfl (by kernel_rfl) Try.func3 (by kernel_rfl)
    (of_decide_eq_true (by kernel_rfl)) (by unfold Func.isWrapper; first | (rw [if_pos (by decide +kernel)]; kernel_rfl) | (rw [if_neg (by decide +kernel)]; exact ⟨rfl, rfl⟩))
    (fun os started H enc _ => lifted os started H enc)

theorem proved : Rows.WordFieldsSaid :=
  over
#print axioms proved
end Go.Proofs.Ytbjfkpmhcegimaa.wordFields
