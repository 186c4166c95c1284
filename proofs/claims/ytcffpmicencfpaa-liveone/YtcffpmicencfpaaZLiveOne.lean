/-
  LiveOne: what one instruction needs and sets, and what counts ahead of at most 40 of them, are what the document has.
  The walk of LiveOne.
-/
import Derived.Test.YtcffpmicencfpaaRows
import Derived.WalkKit
import Derived.ProofKit
import Derived.OpenShut
import Derived.Carry
import Derived.ChangeMaps
import Derived.Test.YtcffpmicencfpaaZC1
import Derived.Test.YtcffpmicencfpaaZX6
import Derived.Test.YtcffpmicencfpaaZY3
import Derived.Test.YtcffpmicencfpaaZY5
import Derived.Test.YtcffpmicencfpaaZY6
import Derived.Test.YtcffpmicencfpaaZy
namespace Go.Proofs.Ytcffpmicencfpaa
open Go.RowKit Go.Lib Go.Sort Ip Bl Lv Pm
set_option linter.unusedSimpArgs false
set_option linter.unusedVariables false

/-- While LiveOne is at work: its instruction's box, its instructions. -/
structure Oo (w : World) (X : Ins) (v : Value) (A : List Ins) (W : World) : Prop where
  xb : W.heap[w.heap.size]? = some (.cells (insC X) 23 (0, 0))
  sl : SlN W v A
  low : Below w.heap.size w W
theorem Oo.ext {w W W' : World} {X : Ins} {v : Value} {A : List Ins} (h : Oo w X v A W) (hb : Below W.heap.size W W') : Oo w X v A W' := ⟨keptN hb h.xb, h.sl.below hb, h.low.trans (hb.mono h.low.size)⟩
set_option maxHeartbeats 4000000 in
set_option maxRecDepth 100000 in
theorem liveOne_walk (HL : LvAll) (op rd rs1 rs2 imm : Int) (pa : Option Addr) (ca : Nat) (la : List Ins) (b : BitVec 32) (w : World)
    (hsa : SlN w (.slice pa la.length ca) la) (hca : la.length ≤ ca) (_ : ca ≤ 9223372036854775807) (nila : ∀ n c, Value.slice pa la.length ca = .slice none n c → c = 0) :
    Calls Try.prog 3 #[.agg #[.int .i64 op, .int .i64 rd, .int .i64 rs1, .int .i64 rs2, .int .i64 imm], .slice pa la.length ca, .int .u32 (b.toNat : Int)] w fun e w' => e = .returned (.bool true) ∧ Below w.heap.size w w' := by
  obtain ⟨na, hna⟩ : ∃ n, la.length = n := ⟨_, rfl⟩
  obtain ⟨ka, hka⟩ : ∃ k, min na 40 = k := ⟨_, rfl⟩
  rw [hna] at hsa hca nila ⊢
  have hmina : min (na : Int) 40 = (ka : Int) := by omega
  have hkca : (ka : Int) ≤ (ca : Int) := by omega
  have hcuta := hsa.cut ka (by omega)
  obtain ⟨A, hA⟩ : ∃ A, la.take ka = A := ⟨_, rfl⟩
  have hAl : A.length ≤ 40 := by rw [← hA, List.length_take]; omega
  rw [hA] at hcuta
  obtain ⟨X, hX⟩ : ∃ X : Ins, (⟨op, rd, rs1, rs2, imm⟩ : Ins) = X := ⟨_, rfl⟩
  obtain ⟨U, hU⟩ : ∃ U, usesB X = U := ⟨_, rfl⟩
  obtain ⟨S, hS⟩ : ∃ S, setsB X = S := ⟨_, rfl⟩
  obtain ⟨N, hN⟩ : ∃ N, backB A b = N := ⟨_, rfl⟩
  have HU : Hid (∀ W, Calls Try.prog 8 #[.agg (insC X)] W fun e w' => e = .returned (.int .u32 (U.toNat : Int)) ∧ Below W.heap.size W w') := hideE (fun W => by have h := HL.uses X W; rw [hU] at h; exact h)
  have HRU : Hid (∀ W, Calls Try.prog 9 #[.agg (insC X)] W fun e w' => e = .returned (.int .u32 (U.toNat : Int)) ∧ Below W.heap.size W w') := hideE (fun W => by have h := ruses_any X W; rw [hU] at h; exact h)
  have HS : Hid (∀ W, Calls Try.prog 10 #[.agg (insC X)] W fun e w' => e = .returned (.int .u32 (S.toNat : Int)) ∧ Below W.heap.size W w') := hideE (fun W => by have h := HL.sets X W; rw [hS] at h; exact h)
  have HRS : Hid (∀ W, Calls Try.prog 11 #[.agg (insC X)] W fun e w' => e = .returned (.int .u32 (S.toNat : Int)) ∧ Below W.heap.size W w') := hideE (fun W => by have h := rsets_any X W; rw [hS] at h; exact h)
  have HBK : Hid (∀ W, SlN W (.slice pa ka ca) A → Calls Try.prog 12 #[.slice pa ka ca, .int .u32 (b.toNat : Int)] W fun e w' => e = .returned (.int .u32 (N.toNat : Int)) ∧ Below W.heap.size W w') := hideE (fun W hW => by have h := HL.back A (.slice pa ka ca) b (by omega) W hW; rw [hN] at h; exact h)
  have HRB : Hid (∀ W, SlN W (.slice pa ka ca) A → Calls Try.prog 13 #[.slice pa ka ca, .int .u32 (b.toNat : Int)] W fun e w' => e = .returned (.int .u32 (N.toNat : Int)) ∧ Below W.heap.size W w') := hideE (fun W hW => by have h := rback_any A (.slice pa ka ca) b (by omega) W hW; rw [hN] at h; exact h)
  have h0 : Oo w X (.slice pa ka ca) A (w.alloc (.cells #[.int .i64 op, .int .i64 rd, .int .i64 rs1, .int .i64 rs2, .int .i64 imm] 23)) := by
    refine ⟨?_, hcuta.below ((Below.refl _ w).alloc (Nat.le_refl _) _), (Below.refl _ w).alloc (Nat.le_refl _) _⟩
    rw [← hX]; exact heap_alloc_new w _
  have H0 := hideE h0
  have HLL := hideE HL
  clear hsa nila hcuta hA hAl hna hka hca HL hX hU hS hN h0
  go_enter Try.func3, Try.ntmps3
  go_upto_region 2 with fail
  refine wp_region_noPanic ?_
  refine wp_region_held_drew (S := (Oo w X (.slice pa ka ca) A)) (by kernel_rfl) (H0.out.ext (Below.refl _ _).drew) (fun h0 => ?_)
  refine wpAnyH_ready (rs := [0]) (by kernel_rfl) (by simp) (allReady_at rfl (fun K hK => ?_))
  go_simp
  refine (fixed9_any HLL.out _).mono ?_
  rintro e w1 ⟨rfl, hbw1⟩
  dsimp only
  have h1 : (Oo w X (.slice pa ka ca) A) w1 := h0.ext hbw1
  refine hK.out _ _ h1 (fun _ => ?_)
  clear hK K
  try simp only [Act.put, List.setIfInBounds_toArray, List.set_cons_zero, List.set_cons_succ]
  refine wpAnyH_takeAt (i := 1) (v := ?_) rfl (by kernel_rfl) (by kernel_rfl) (by kernel_rfl) (fun _ _ _ h => h) (Or.inl ⟨by rfl, ?_⟩) h1 ?_
  rotate_left 1
  · intro w' hS; clear hS
    go_simp <;> with_reducible rfl
  try simp only [Act.put, List.setIfInBounds_toArray, List.set_cons_zero, List.set_cons_succ]
  refine wpAnyH_takeAt (i := 2) (v := .agg (insC X)) rfl (by kernel_rfl) (by kernel_rfl) (by kernel_rfl) (fun _ _ _ h => h) (yieldsIf_row (by rfl) _ _ rfl w.heap.size rfl _ _ _ _ (fun _ h => h.xb) Try.underlying23 rfl (insBox9 _)) h1 ?_
  simp only [Act.put, List.setIfInBounds_toArray, List.set_cons_zero, List.set_cons_succ]
  refine wpAnyH_takeAt (i := 4) (v := .agg (insC X)) rfl (by kernel_rfl) (by kernel_rfl) (by kernel_rfl) (fun _ _ _ h => h) (yieldsIf_row (by rfl) _ _ rfl w.heap.size rfl _ _ _ _ (fun _ h => h.xb) Try.underlying23 rfl (insBox9 _)) h1 ?_
  simp only [Act.put, List.setIfInBounds_toArray, List.set_cons_zero, List.set_cons_succ]
  refine wpAnyH_ready (rs := [3]) (by kernel_rfl) (by simp) (allReady_at rfl (fun K hK => ?_))
  go_simp
  refine (HU.out _).mono ?_
  rintro e w2 ⟨rfl, hbw2⟩
  dsimp only
  have h2 : (Oo w X (.slice pa ka ca) A) w2 := h1.ext hbw2
  refine hK.out _ _ h2 (fun _ => ?_)
  clear hK K
  try simp only [Act.put, List.setIfInBounds_toArray, List.set_cons_zero, List.set_cons_succ]
  refine wpAnyH_ready (rs := [5]) (by kernel_rfl) (by simp) (allReady_at rfl (fun K hK => ?_))
  go_simp
  refine (HRU.out _).mono ?_
  rintro e w3 ⟨rfl, hbw3⟩
  dsimp only
  have h3 : (Oo w X (.slice pa ka ca) A) w3 := h2.ext hbw3
  refine hK.out _ _ h3 (fun _ => ?_)
  clear hK K
  try simp only [Act.put, List.setIfInBounds_toArray, List.set_cons_zero, List.set_cons_succ]
  refine wpAnyH_takeAt (i := 6) (v := ?_) rfl (by kernel_rfl) (by kernel_rfl) (by kernel_rfl) (fun _ _ _ h => h) (Or.inl ⟨by rfl, ?_⟩) h3 ?_
  rotate_left 1
  · intro w' hS; clear hS
    go_simp <;> with_reducible rfl
  try simp only [Act.put, List.setIfInBounds_toArray, List.set_cons_zero, List.set_cons_succ]
  refine wpAnyH_takeAt (i := 7) (v := ?_) rfl (by kernel_rfl) (by kernel_rfl) (by kernel_rfl) (fun _ _ _ h => h) (Or.inl ⟨by rfl, ?_⟩) h3 ?_
  rotate_left 1
  · intro w' hS; clear hS
    go_simp <;> with_reducible rfl
  try simp only [Act.put, List.setIfInBounds_toArray, List.set_cons_zero, List.set_cons_succ]
  refine wpAnyH_takeAt (i := 8) (v := ?_) rfl (by kernel_rfl) (by kernel_rfl) (by kernel_rfl) (fun _ _ _ h => h) (Or.inl ⟨by rfl, ?_⟩) h3 ?_
  rotate_left 1
  · intro w' hS; clear hS
    go_simp <;> with_reducible rfl
  try simp only [Act.put, List.setIfInBounds_toArray, List.set_cons_zero, List.set_cons_succ]
  refine wpAnyH_takeAt (i := 9) (v := .agg (insC X)) rfl (by kernel_rfl) (by kernel_rfl) (by kernel_rfl) (fun _ _ _ h => h) (yieldsIf_row (by rfl) _ _ rfl w.heap.size rfl _ _ _ _ (fun _ h => h.xb) Try.underlying23 rfl (insBox9 _)) h3 ?_
  simp only [Act.put, List.setIfInBounds_toArray, List.set_cons_zero, List.set_cons_succ]
  refine wpAnyH_takeAt (i := 11) (v := .agg (insC X)) rfl (by kernel_rfl) (by kernel_rfl) (by kernel_rfl) (fun _ _ _ h => h) (yieldsIf_row (by rfl) _ _ rfl w.heap.size rfl _ _ _ _ (fun _ h => h.xb) Try.underlying23 rfl (insBox9 _)) h3 ?_
  simp only [Act.put, List.setIfInBounds_toArray, List.set_cons_zero, List.set_cons_succ]
  refine wpAnyH_ready (rs := [10]) (by kernel_rfl) (by simp) (allReady_at rfl (fun K hK => ?_))
  go_simp
  refine (HS.out _).mono ?_
  rintro e w4 ⟨rfl, hbw4⟩
  dsimp only
  have h4 : (Oo w X (.slice pa ka ca) A) w4 := h3.ext hbw4
  refine hK.out _ _ h4 (fun _ => ?_)
  clear hK K
  try simp only [Act.put, List.setIfInBounds_toArray, List.set_cons_zero, List.set_cons_succ]
  refine wpAnyH_ready (rs := [12]) (by kernel_rfl) (by simp) (allReady_at rfl (fun K hK => ?_))
  go_simp
  refine (HRS.out _).mono ?_
  rintro e w5 ⟨rfl, hbw5⟩
  dsimp only
  have h5 : (Oo w X (.slice pa ka ca) A) w5 := h4.ext hbw5
  refine hK.out _ _ h5 (fun _ => ?_)
  clear hK K
  try simp only [Act.put, List.setIfInBounds_toArray, List.set_cons_zero, List.set_cons_succ]
  refine wpAnyH_takeAt (i := 13) (v := ?_) rfl (by kernel_rfl) (by kernel_rfl) (by kernel_rfl) (fun _ _ _ h => h) (Or.inl ⟨by rfl, ?_⟩) h5 ?_
  rotate_left 1
  · intro w' hS; clear hS
    go_simp <;> with_reducible rfl
  try simp only [Act.put, List.setIfInBounds_toArray, List.set_cons_zero, List.set_cons_succ]
  refine wpAnyH_takeAt (i := 14) (v := ?_) rfl (by kernel_rfl) (by kernel_rfl) (by kernel_rfl) (fun _ _ _ h => h) (Or.inl ⟨by rfl, ?_⟩) h5 ?_
  rotate_left 1
  · intro w' hS; clear hS
    go_simp <;> with_reducible rfl
  try simp only [Act.put, List.setIfInBounds_toArray, List.set_cons_zero, List.set_cons_succ]
  refine wpAnyH_takeAt (i := 15) (v := ?_) rfl (by kernel_rfl) (by kernel_rfl) (by kernel_rfl) (fun _ _ _ h => h) (Or.inl ⟨by rfl, ?_⟩) h5 ?_
  rotate_left 1
  · intro w' hS; clear hS
    go_simp <;> with_reducible rfl
  try simp only [Act.put, List.setIfInBounds_toArray, List.set_cons_zero, List.set_cons_succ]
  refine wpAnyH_takeAt (i := 16) (v := ?_) rfl (by kernel_rfl) (by kernel_rfl) (by kernel_rfl) (fun _ _ _ h => h) (Or.inl ⟨by rfl, ?_⟩) h5 ?_
  rotate_left 1
  · intro w' hS; clear hS
    go_simp <;> with_reducible rfl
  try simp only [Act.put, List.setIfInBounds_toArray, List.set_cons_zero, List.set_cons_succ]
  refine wpAnyH_takeAt (i := 17) (v := ?_) rfl (by kernel_rfl) (by kernel_rfl) (by kernel_rfl) (fun _ _ _ h => h) (Or.inl ⟨by rfl, ?_⟩) h5 ?_
  rotate_left 1
  · intro w' hS; clear hS
    go_simp <;> with_reducible rfl
  try simp only [Act.put, List.setIfInBounds_toArray, List.set_cons_zero, List.set_cons_succ]
  refine wpAnyH_takeAt (i := 19) (v := ?_) rfl (by kernel_rfl) (by kernel_rfl) (by kernel_rfl) (fun _ _ _ h => h) (Or.inl ⟨by rfl, ?_⟩) h5 ?_
  rotate_left 1
  · intro w' hS; clear hS
    go_simp <;> with_reducible rfl
  try simp only [Act.put, List.setIfInBounds_toArray, List.set_cons_zero, List.set_cons_succ]
  refine wpAnyH_takeAt (i := 20) (v := ?_) rfl (by kernel_rfl) (by kernel_rfl) (by kernel_rfl) (fun _ _ _ h => h) (Or.inl ⟨by rfl, ?_⟩) h5 ?_
  rotate_left 1
  · intro w' hS; clear hS
    go_simp <;> with_reducible rfl
  try simp only [Act.put, List.setIfInBounds_toArray, List.set_cons_zero, List.set_cons_succ]
  refine wpAnyH_ready (rs := [18]) (by kernel_rfl) (by simp) (allReady_at rfl (fun K hK => ?_))
  go_simp
  refine (HBK.out _ h5.sl).mono ?_
  rintro e w6 ⟨rfl, hbw6⟩
  dsimp only
  have h6 : (Oo w X (.slice pa ka ca) A) w6 := h5.ext hbw6
  refine hK.out _ _ h6 (fun _ => ?_)
  clear hK K
  try simp only [Act.put, List.setIfInBounds_toArray, List.set_cons_zero, List.set_cons_succ]
  refine wpAnyH_ready (rs := [21]) (by kernel_rfl) (by simp) (allReady_at rfl (fun K hK => ?_))
  go_simp
  refine (HRB.out _ h6.sl).mono ?_
  rintro e w7 ⟨rfl, hbw7⟩
  dsimp only
  have h7 : (Oo w X (.slice pa ka ca) A) w7 := h6.ext hbw7
  refine hK.out _ _ h7 (fun _ => ?_)
  clear hK K
  try simp only [Act.put, List.setIfInBounds_toArray, List.set_cons_zero, List.set_cons_succ]
  refine wpAnyH_takeAt (i := 22) (v := ?_) rfl (by kernel_rfl) (by kernel_rfl) (by kernel_rfl) (fun _ _ _ h => h) (Or.inl ⟨by rfl, ?_⟩) h7 ?_
  rotate_left 1
  · intro w' hS; clear hS
    go_simp <;> with_reducible rfl
  try simp only [Act.put, List.setIfInBounds_toArray, List.set_cons_zero, List.set_cons_succ]
  refine wpAnyH_takeAt (i := 23) (v := ?_) rfl (by kernel_rfl) (by kernel_rfl) (by kernel_rfl) (fun _ _ _ h => h) (Or.inl ⟨by rfl, ?_⟩) h7 ?_
  rotate_left 1
  · intro w' hS; clear hS
    go_simp <;> with_reducible rfl
  try simp only [Act.put, List.setIfInBounds_toArray, List.set_cons_zero, List.set_cons_succ]
  refine wpAnyH_takeAt (i := 24) (v := ?_) rfl (by kernel_rfl) (by kernel_rfl) (by kernel_rfl) (fun _ _ _ h => h) (Or.inl ⟨by rfl, ?_⟩) h7 ?_
  rotate_left 1
  · intro w' hS; clear hS
    go_simp <;> with_reducible rfl
  try simp only [Act.put, List.setIfInBounds_toArray, List.set_cons_zero, List.set_cons_succ]
  refine wpAnyH_done (by kernel_rfl) ?_ _
  refine NoPanic.normal ?_
  go_wp2_with fail
  go_ret
  exact ⟨rfl, h7.low⟩
end Go.Proofs.Ytcffpmicencfpaa
namespace Go.Proofs.Ytcffpmicencfpaa.liveOne
open Go.ChangeShapes Go.WideShapes Go.ChangeAt Go.RowKit
open Go.ChangeMaps (open_string shut_string)
set_option linter.unusedVariables false

theorem own : ownKnob Try.prog.godebug = none := by kernel_rfl

set_option maxRecDepth 100000 in
theorem lifted (os : Os) (started : os.Started) (H : Type) (enc : TypeId × Value → H) :
    ReturnsInHanded {} Try.checked os 3 .any (Rows.liveOneSpec.pre6 enc Try.prog Try.f3 Rows.liveOneRow.domain false) (Rows.liveOneSpec.post enc Try.prog Try.f3 false true false false) := by
  refine returnsInHanded_of_change (C := Try.checked) own started (by kernel_rfl) Try.func3
    (ChangeSpec.witness6 (enc := enc) (C := Try.checked) false ⟨#[], #[.agg #[.int .i64 0, .int .i64 0, .int .i64 0, .int .i64 0, .int .i64 0], .slice none 0 0, .int .u32 0], []⟩ 8 (by kernel_rfl) (by kernel_rfl) (by kernel_rfl) (by kernel_rfl)) ?_
  intro W base args ds gs before hval0 hW hcnd _
  have hval : ∀ (j : Nat) t v, Try.f3.params[j]? = some t → args[j]? = some v → Value.okWide Try.prog W .any base t v := hval0
  have hW' := hW
  obtain ⟨p, q, hA0, hV, rfl, hfz, hnd⟩ := hW
  have hA : DataW.TrodAll enc Try.prog W 0 (fun _ => true) true Try.f3.params.toList args.toList ds p := hA0
  rw [Try.params3] at hA hval
  obtain ⟨v0, vs0, d0, ds0, p0, q0, hargs, rfl, rfl, h0, r0⟩ := trodAll_cons hA
  obtain ⟨v1, vs1, d1, ds1, p1, q1, rfl, rfl, rfl, h1, r1⟩ := trodAll_cons r0
  obtain ⟨v2, vs2, d2, ds2, p2, q2, rfl, rfl, rfl, h2, r2⟩ := trodAll_cons r1
  obtain ⟨rfl, rfl, rfl⟩ := trodAll_nil r2
  obtain rfl : args = #[v0, v1, v2] := by cases args; simp_all
  obtain ⟨rfl, rfl⟩ := trodVars_none hV
  have hlt : ∀ x ∈ p0 ++ p1 ++ p2, x.block < W.heap.size := fun x hx => by simpa using hW'.lt x (by simpa using hx)
  have k0 := h0
  have l0 : ∀ x ∈ p0, x.block < W.heap.size := fun x hx => hlt x (by simp [hx])
  have k1 := h1
  have l1 : ∀ x ∈ p1, x.block < W.heap.size := fun x hx => hlt x (by simp [hx])
  have k2 := h2
  have l2 : ∀ x ∈ p2, x.block < W.heap.size := fun x hx => hlt x (by simp [hx])
  obtain ⟨i00, i01, i02, i03, i04, rfl, rfl, rfl, w00, w01, w02, w03, w04⟩ := open_inst (hval 0 23 v0 rfl rfl) h0
  have nil1 := instsN_nil h1
  obtain ⟨pi1, ci1, li1, rfl, hsl1, hcp1, hln1⟩ := open_instsN (hval 1 24 v1 rfl rfl) h1
  obtain ⟨a2, rfl, rfl, rfl, w2⟩ := open_int Try.underlying25 (hval 2 25 v2 rfl rfl) h2
  obtain ⟨x2, e2⟩ := u32_of a2 w2
  subst e2
  clear hA0 hval0
  refine (liveOne_walk lv9 i00 i01 i02 i03 i04 pi1 ci1 li1 x2 W hsl1 hcp1 hln1 nil1).mono fun e W' ⟨he, hg⟩ => ?_
  subst he
  exact ⟨_, rfl, _, _, _, [], _, [], hW', trodAll_mk1 (shut_bool Try.underlying4 _), (trodAll_cons_mk (Below.trod laidOut6 (by kernel_rfl) (of_decide_eq_true (by kernel_rfl)) k0 hg l0) (trodAll_cons_mk (Below.trod laidOut6 (by kernel_rfl) (of_decide_eq_true (by kernel_rfl)) k1 hg l1) (trodAll_cons_mk (Below.trod laidOut6 (by kernel_rfl) (of_decide_eq_true (by kernel_rfl)) k2 hg l2) trodAll_mk0))), rfl, hg.frame _, fun h => by cases h⟩

theorem over : Rows.liveOneRow.holds Try.pinned (OpenSpec.ofChange Rows.liveOneSpec) :=
  OpenClaim.holds_of_wide 3 Try.f3 rfl rfl rfl rfl rfl rfl rfl ⟨rfl, rfl, rfl, rfl, rfl⟩ rfl rfl rfl rfl rfl (by kernel_rfl) Try.func3 (by kernel_rfl)
    (of_decide_eq_true (by kernel_rfl)) (by unfold Func.isWrapper; first | (rw [if_pos (by decide +kernel)]; kernel_rfl) | (rw [if_neg (by decide +kernel)]; exact ⟨rfl, rfl⟩))
    (fun os started H enc _ => lifted os started H enc)

theorem proved : Rows.LiveOneSaid :=
  over
#print axioms proved
end Go.Proofs.Ytcffpmicencfpaa.liveOne
