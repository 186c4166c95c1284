/-
  TermEvals, as the row says it.
  The walk of TermEvals.
-/
import Derived.Test.YthlefedljgmmfaaRows
import Derived.WalkKit
import Derived.ProofKit
import Derived.OpenShut
import Derived.Carry
import Derived.ChangeMaps
import Derived.Test.YthlefedljgmmfaaZC1
import Derived.Test.YthlefedljgmmfaaZW0
import Derived.Test.YthlefedljgmmfaaZW5
namespace Go.Proofs.Ythlefedljgmmfaa
open Go.RowKit Go.Lib Tm
set_option linter.unusedSimpArgs false
set_option linter.unusedVariables false

set_option maxHeartbeats 8000000 in
set_option maxRecDepth 100000 in
theorem termEvals_any {Dag : World → Nat → List Trm → (Nat → Prop) → Prop} (HT : TmAll Dag) (p : Option Addr) (c : Nat) (s : List Opc) (n : Int) (x : Nat → BitVec 32) (w : World) (hS : SlO w (.slice p s.length c) s) (ho : ∀ o ∈ s, OkO o) (hl : s.length ≤ 9223372036854775807) (hn : -9223372036854775808 ≤ n ∧ n ≤ 9223372036854775807) :
    Calls Try.prog 4 #[.slice p s.length c, .int .i64 n, .agg (regsC x)] w fun e w' => e = .returned (.bool true) ∧ Below w.heap.size w w' := by
  have hL := run_len s 60
  have hok := (run_ok (s.take 60)).1
  have HLaid := hideE (fun W hW => laid_any HT p c s W hW ho hl)
  obtain ⟨L, hLL⟩ : ∃ L, runL (s.take 60) = L := ⟨_, rfl⟩
  rw [hLL] at hL hok HLaid
  obtain ⟨sn, hsn⟩ : ∃ k, s.length = k := ⟨_, rfl⟩
  rw [hsn] at HLaid hS hl ⊢
  have HE1 := hideE (fun W g fp (h : Dag W g L fp) => HT.eval n x hn hok (by omega) h)
  have HE2 := hideE (fun W g fp (h : RDag W g L fp) => reval_any n x hn W hok (by omega) h)
  have HV1 := hideE (fun W g fp (h : Dag W g L fp) => HT.vars n hn hok (by omega) h)
  have HV2 := hideE (fun W g fp (h : RDag W g L fp) => rvars_any n hn W hok (by omega) h)
  have HF := hideE (fun W => fixed_any10 HT W)
  obtain ⟨X, hX⟩ : ∃ X, regsC x = X := ⟨_, rfl⟩
  have hXs : X.size = 32 := by rw [← hX]; exact regs_size x
  rw [hX] at HE1 HE2
  rw [hX]
  obtain ⟨a1, h1⟩ : ∃ a, (evalN x L n).toNat = a := ⟨_, rfl⟩
  obtain ⟨a2, h2⟩ : ∃ a, nodeE L n = a := ⟨_, rfl⟩
  obtain ⟨a3, h3⟩ : ∃ a, (varsN L n).toNat = a := ⟨_, rfl⟩
  simp only [ptrV, h1, h2, h3] at HE1 HE2 HV1 HV2 HLaid
  have HB0 := hideE ((Below.refl _ w).alloc (Nat.le_refl _) (.cells X 39))
  have HXb := hideE (heap_alloc_new w (.cells X 39))
  have HSl := hideE (HLaid.out _ (hS.below HB0.out))
  clear HLaid hS ho hl hn hL hok hX h1 h2 h3 hLL hsn
  go_enter Try.func4, Try.ntmps4
  go_wp2_with (first
    | (go_at_call 9; refine HSl.out.mono ?_; rintro e w1 ⟨g, g2, rfl, fp, fp2, hp⟩; have P0 := hideE hp; have hxb := (hp.low.block w.heap.size (by simp)).trans HXb.out; clear hp)
    | (refine wpList_load_row rfl 39 _ rfl w.heap.size rfl _ _ _ _ hxb Try.underlying39 rfl (by rw [hXs]; kernel_rfl) ?_)
    | (go_at_call 13; refine (HE1.out _ _ _ P0.out.d).mono ?_; rintro e w2 ⟨rfl, fp3, h, k⟩; have P1 := hideE (P0.out.left HT h k); clear hxb; have hxb := (P1.out.low.block w.heap.size (by simp)).trans HXb.out; clear h k)
    | (go_at_call 14; refine (HE2.out _ _ _ P1.out.k).mono ?_; rintro e w3 ⟨rfl, h⟩; have P2 := hideE (P1.out.below HT h); clear hxb; clear h)
    | (go_at_call 15; refine (HV1.out _ _ _ P2.out.d).mono ?_; rintro e w4 ⟨rfl, fp4, h, k⟩; have P3 := hideE (P2.out.left HT h k); clear h k)
    | (go_at_call 16; refine (HV2.out _ _ _ P3.out.k).mono ?_; rintro e w5 ⟨rfl, h⟩; have P4 := hideE (P3.out.below HT h); clear h)
    | (go_at_call 12; refine (HF.out _).mono ?_; rintro e w6 ⟨rfl, h⟩; have P5 := hideE (P4.out.below HT h); clear h))
  go_ret
  exact ⟨rfl, HB0.out.trans (P5.out.low.mono HB0.out.size)⟩
end Go.Proofs.Ythlefedljgmmfaa
namespace Go.Proofs.Ythlefedljgmmfaa.termEvals
open Go.ChangeShapes Go.WideShapes Go.ChangeAt Go.RowKit
open Go.ChangeMaps (open_string shut_string)
set_option linter.unusedVariables false

theorem own : ownKnob Try.prog.godebug = none := by kernel_rfl

set_option maxRecDepth 100000 in
theorem lifted (os : Os) (started : os.Started) (H : Type) (enc : TypeId × Value → H) :
    ReturnsInHanded {} Try.checked os 4 .any (Rows.termEvalsSpec.pre6 enc Try.prog Try.f4 Rows.termEvalsRow.domain false) (Rows.termEvalsSpec.post enc Try.prog Try.f4 false true false false) := by
  refine returnsInHanded_of_change (C := Try.checked) own started (by kernel_rfl) Try.func4
    (ChangeSpec.witness6 (enc := enc) (C := Try.checked) false ⟨#[], #[.slice none 0 0, .int .i64 0, .agg #[.int .u32 0, .int .u32 0, .int .u32 0, .int .u32 0, .int .u32 0, .int .u32 0, .int .u32 0, .int .u32 0, .int .u32 0, .int .u32 0, .int .u32 0, .int .u32 0, .int .u32 0, .int .u32 0, .int .u32 0, .int .u32 0, .int .u32 0, .int .u32 0, .int .u32 0, .int .u32 0, .int .u32 0, .int .u32 0, .int .u32 0, .int .u32 0, .int .u32 0, .int .u32 0, .int .u32 0, .int .u32 0, .int .u32 0, .int .u32 0, .int .u32 0, .int .u32 0]], []⟩ 8 (by kernel_rfl) (by kernel_rfl) (by kernel_rfl) (by kernel_rfl)) ?_
  intro W base args ds gs before hval0 hW hcnd _
  have hval : ∀ (j : Nat) t v, Try.f4.params[j]? = some t → args[j]? = some v → Value.okWide Try.prog W .any base t v := hval0
  have hW' := hW
  obtain ⟨p, q, hA0, hV, rfl, hfz, hnd⟩ := hW
  have hA : DataW.TrodAll enc Try.prog W 0 (fun _ => true) true Try.f4.params.toList args.toList ds p := hA0
  rw [Try.params4] at hA hval
  obtain ⟨v0, vs0, d0, ds0, p0, q0, hargs, rfl, rfl, h0, r0⟩ := trodAll_cons hA
  obtain ⟨v1, vs1, d1, ds1, p1, q1, rfl, rfl, rfl, h1, r1⟩ := trodAll_cons r0
  obtain ⟨v2, vs2, d2, ds2, p2, q2, rfl, rfl, rfl, h2, r2⟩ := trodAll_cons r1
  obtain ⟨rfl, rfl, rfl⟩ := trodAll_nil r2
  obtain rfl : args = #[v0, v1, v2] := by cases args; simp_all
  obtain ⟨rfl, rfl⟩ := trodVars_none hV
  have hlt : ∀ x ∈ p0 ++ p1 ++ p2, x.block < W.heap.size := fun x hx => by simpa using hW'.lt x (by simpa using hx)
  have k0 := h0
  have l0 : ∀ x ∈ p0, x.block < W.heap.size := fun x hx => hlt x (by simp [hx])
  have k1 := h1
  have l1 : ∀ x ∈ p1, x.block < W.heap.size := fun x hx => hlt x (by simp [hx])
  have k2 := h2
  have l2 : ∀ x ∈ p2, x.block < W.heap.size := fun x hx => hlt x (by simp [hx])
  obtain ⟨pi0, ci0, li0, rfl, hsl0, hoo0, hln0⟩ := open_ops (hval 0 22 v0 rfl rfl) h0
  obtain ⟨a1, rfl, rfl, rfl, w1⟩ := open_int Try.underlying3 (hval 1 3 v1 rfl rfl) h1
  obtain ⟨x2, rfl⟩ := open_regs (hval 2 39 v2 rfl rfl) h2
  clear hA0 hval0
  refine (termEvals_any tm10 pi0 ci0 li0 a1 x2 W hsl0 hoo0 hln0 (bounds_i64 w1)).mono fun e W' ⟨he, hg⟩ => ?_
  subst he
  exact ⟨_, rfl, _, _, _, [], _, [], hW', trodAll_mk1 (shut_bool Try.underlying4 _), (trodAll_cons_mk (Below.trod laidOut6 (by kernel_rfl) (of_decide_eq_true (by kernel_rfl)) k0 hg l0) (trodAll_cons_mk (Below.trod laidOut6 (by kernel_rfl) (of_decide_eq_true (by kernel_rfl)) k1 hg l1) (trodAll_cons_mk (Below.trod laidOut6 (by kernel_rfl) (of_decide_eq_true (by kernel_rfl)) k2 hg l2) trodAll_mk0))), rfl, hg.frame _, fun h => by cases h⟩

theorem over : Rows.termEvalsRow.holds Try.pinned (OpenSpec.ofChange Rows.termEvalsSpec) :=
  OpenClaim.holds_of_wide 4 Try.f4 rfl rfl rfl rfl rfl rfl rfl ⟨rfl, rfl, rfl, rfl, rfl⟩ rfl rfl rfl rfl rfl (by kernel_rfl) Try.func4 (by kernel_rfl)
    (of_decide_eq_true (by kernel_rfl)) (by unfold Func.isWrapper; first | (rw [if_pos (by decide +kernel)]; kernel_rfl) | (rw [if_neg (by decide +kernel)]; exact ⟨rfl, rfl⟩))
    (fun os started H enc _ => lifted os started H enc)

theorem proved : Rows.TermEvalsSaid :=
  over
#print axioms proved
end Go.Proofs.Ythlefedljgmmfaa.termEvals
