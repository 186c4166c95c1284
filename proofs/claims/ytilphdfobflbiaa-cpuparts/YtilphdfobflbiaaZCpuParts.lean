/-
  CpuParts answers true of every scene and every number. There are no conditions.
  The walk of CpuParts: it answers true of any scene and any number.
-/
import Derived.Laws.BitsLemmas
import Derived.Test.YtilphdfobflbiaaRows
import Derived.WalkKit
import Derived.ProofKit
import Derived.OpenShut
import Derived.Carry
import Derived.Test.YtilphdfobflbiaaZi
import Derived.Test.YtilphdfobflbiaaZx
import Derived.Test.YtilphdfobflbiaaZz
namespace Go.Proofs.Ytilphdfobflbiaa
open Go.RowKit Go.Maps Cp Ip Mm
set_option linter.unusedSimpArgs false

theorem and16_i64 (n : Int) : bits .and .i64 n 65535 = n % 65536 := by
  have h15 : (BitVec.ofInt 64 65535).toNat = 2 ^ 16 - 1 := by decide
  have key : (BitVec.ofInt 64 n &&& BitVec.ofInt 64 65535).toNat = (n % ((2 ^ 64 : Nat) : Int)).toNat % 2 ^ 16 := by
    rw [BitVec.toNat_and, BitVec.toNat_ofInt, h15, Nat.and_two_pow_sub_one_eq_mod]
  show IntKind.i64.wrap ((BitVec.ofInt 64 n &&& BitVec.ofInt 64 65535).toNat : Nat) = n % 65536
  rw [key, IntKind.wrap_i64]
  omega
theorem own_apart2 {v : Value} {n g : Nat} (h : ∀ j, v.ownBlock = some j → j < n) (hg : n ≤ g) : v.ownBlock = none ∨ v.ownBlock ≠ some g := by
  cases e : v.ownBlock with
  | none => exact .inl rfl
  | some j => exact .inr (by have := h j e; simp; omega)
theorem scene_row {w : World} {g k : Nat} {V : Scene} {cs : Array Value} (h : SceneAt w g V) (hn : g ≠ k) : SceneAt (w.setRow k cs) g V := by
  unfold SceneAt; rw [setRow_other w k g cs hn]; exact h
theorem empty_calls (w : World) : (w.alloc (.cells #[] 72)).ownsRow w.heap.size 72 8 (.slice (some ⟨w.heap.size, 0, none⟩) 0 0) ([] : List Mach).length (askAll []) :=
  ⟨rfl, .inr ⟨w.heap.size, 0, #[], rfl, Nat.le_refl _, heap_alloc_new w _, Nat.le_refl _, Nat.zero_le _, rfl, rfl⟩⟩
/-- A run and its first part. -/
structure PartsOf (zs : List (BitVec 32)) (k : Nat) (rA rB rC : Res) : Prop where
  ends : rB.e ≠ 6 → rA = rB
  goes : rB.e = 6 → rA = pre rB.calls k rC ∧ rB.calls.length ≤ zs.length ∧ rB.n = k
  nought : zr rB.c = rB.c
  countA : rA.calls.length ≤ rA.n ∧ rA.n ≤ 60
  countB : rB.calls.length ≤ rB.n ∧ rB.n ≤ 60
theorem parts_of (n k : Nat) (hk : k ≤ n) (hn : n ≤ 60) (c : Mach) (l : Cs) (zs : List (BitVec 32)) :
    PartsOf zs k (runM n (zr c) l zs) (runM k (zr c) l zs) (runM (n - k) (runM k (zr c) l zs).c (runM k (zr c) l zs).l (zs.drop (runM k (zr c) l zs).calls.length)) := by
  obtain ⟨h1, h2⟩ := run_more k (n - k) (zr c) l zs
  have A := run_counts n (zr c) l zs
  have B := run_counts k (zr c) l zs
  rw [show k + (n - k) = n by omega] at h1 h2
  exact ⟨fun h => h2 h, fun h => ⟨(h1 h).2, (h1 h).1, B.fuel h⟩, zr_same (run_nought k (zr c) l zs (zr_0 c)), ⟨A.calls, by have := A.steps; omega⟩, ⟨B.calls, by have := B.steps; omega⟩⟩

set_option maxRecDepth 100000 in
set_option maxHeartbeats 16000000 in
theorem cpuParts_walk (V : Scene) (cut : Int) (w : World) (hV : SceneOk w V) (_hm : -9223372036854775808 ≤ cut ∧ cut ≤ 9223372036854775807) : Calls Try.prog 4 #[.agg (wcells V), .int .i64 cut] w fun e w' => e = .returned (.bool true) ∧ Below w.heap.size w w' := by
  have hz := zeroC
  have he := eqlC
  have sc0 := SceneAt.new w V
  have lo0 : Below w.heap.size w (w.alloc (.cells (wcells V) 34)) := (Below.refl _ _).alloc (Nat.le_refl _) _
  have hV0 := hV.below lo0
  obtain ⟨z, hzz, hz0', hz1'⟩ : ∃ z : Int, bits .and .i64 cut 65535 = z ∧ 0 ≤ z ∧ z ≤ 65535 := ⟨_, and16_i64 cut, by omega, by omega⟩
  go_enter Try.func4, Try.ntmps4
  go_upto_region 1 with fail
  generalize hw0 : w.alloc (.cells (wcells V) 34) = w0 at sc0 lo0 hV0 ⊢
  have hz0 : w0.heap.size = w.heap.size + 1 := by rw [← hw0]; simp
  clear hw0
  go_wp2_with (first | (refine wpList_load_row rfl 34 _ rfl w.heap.size rfl _ _ _ _ sc0 Try.underlying34 rfl (infoW _) ?_))
  refine (laid_any V w0 hV0).mono ?_
  rintro e w1 ⟨pb, bm, kb, rfl, m1, _, hp1, hb1, l1⟩
  have s1 := sc0.below l1
  have lo1 := lo0.trans (l1.mono lo0.size)
  have a1 := hV0.ans.below l1
  have hz1 := l1.size
  have hbm1 := m1.lt'
  have hpm1 := m1.lt
  clear sc0 lo0 l1 hV0
  generalize laidL V = l at m1
  have f0 := hV.f0
  have f1 := hV.f1
  clear hV
  obtain ⟨ad, cap, ea, hcap, _⟩ := id a1
  rw [ea] at a1
  go_wp2_with fail
  refine (copy_op w1 m1).mono ?_
  rintro e w2 ⟨px, mx, rfl, x2, hpx, hmx, l2⟩
  have m2 := m1.below l2
  have s2 := s1.below l2
  have a2 := a1.below l2
  have lo2 := lo1.trans (l2.mono lo1.size)
  have hz2 := l2.size
  have hx1 := x2.lt
  have hx2 := x2.lt'
  clear m1 s1 a1 lo1 l2
  have qf := s2.fuel
  generalize V.fuel = f at qf f0 f1
  obtain ⟨F, hF, hF0, hF1⟩ : ∃ F : Int, max 0 (min f 60) = F ∧ 0 ≤ F ∧ F ≤ 60 := ⟨_, rfl, by omega, by omega⟩
  have hF' : max (min f 60) 0 = F := by omega
  go_upto_region 8 with fail
  clear hF hF' qf f0 f1
  obtain ⟨k, hk, hk', hk0, hk1⟩ : ∃ k : Int, z.tmod (F + 1) = k ∧ z % (F + 1) = k ∧ 0 ≤ k ∧ k ≤ F := by
    have h1 : z.tmod (F + 1) = z % (F + 1) := Int.tmod_eq_emod_of_nonneg hz0'
    have h2 := Int.emod_nonneg z (show F + 1 ≠ 0 by omega)
    have h3 := Int.emod_lt_of_pos z (show 0 < F + 1 by omega)
    exact ⟨_, h1, rfl, h2, by omega⟩
  go_upto_region 9 with fail
  clear hk hk' hzz hz0' hz1'
  have qa := s2.ans
  rw [ea] at qa
  go_wp2_with (first | (refine wpList_load_cpu (by rfl) _ rfl w.heap.size rfl V s2 ?_))
  refine (run_any V.c _ V.zs F (by omega) w2 m2 a2).mono ?_
  rintro e w3 ⟨vA, rfl, m3, g3, oA3⟩
  have x3 := x2.apart g3 (by omega) (by omega)
  have s3 := s2.grown g3 (by omega)
  have a3 := ansAt_grown a2 m2 g3
  have lo3 := below_grown lo2 g3 (by omega) lo2.size
  have hz3 := g3.size
  clear m2 x2 s2 a2 lo2 g3 qa
  have PP := parts_of F.toNat k.toNat (by omega) (by omega) V.c l V.zs
  generalize runM F.toNat (zr V.c) l V.zs = rA at m3 oA3 PP ⊢
  obtain ⟨nn, bxw4⟩ := box_new2 w3 rA.c
  have m4 := m3.below nn
  have x4 := x3.below nn
  have s4 := s3.below nn
  have a4 := a3.below nn
  have lo4 := lo3.trans (nn.mono lo3.size)
  have oA4 := own_below oA3 nn
  clear m3 x3 s3 a3 lo3 oA3
  go_upto_region 10 with (first | (refine wpList_store_row rfl 25 _ _ rfl w3.heap.size _ rfl rfl _ _ (told_box w3) (infoCs _) (cells_same _ _) (cells_one _) ?_))
  generalize (w3.alloc (.cells (cells nought) 25)).setRow w3.heap.size (cells rA.c) = w4 at nn bxw4 m4 x4 s4 a4 lo4 oA4 ⊢
  have hzw4 := nn.size
  clear nn

  have qa := s4.ans
  rw [ea] at qa
  go_wp2_with (first | (refine wpList_load_cpu (by rfl) _ rfl w.heap.size rfl V s4 ?_))
  refine (run_any V.c _ V.zs k (by omega) w4 x4 a4).mono ?_
  rintro e w5 ⟨vB, rfl, x5, g5, oB5⟩
  have m5 := m4.apart g5 (by omega) (by omega)
  have s5 := s4.grown g5 (by omega)
  have a5 := ansAt_grown a4 x4 g5
  have lo5 := below_grown lo4 g5 (by omega) lo4.size
  have oA5 := own_kept oA4 g5 (by omega)
  have bA5 := Box.grown bxw4 g5 (by omega)
  have hz5 := g5.size
  have tA := bxw4.lt
  clear m4 x4 s4 a4 lo4 g5 qa oA4 bxw4
  generalize runM k.toNat (zr V.c) l V.zs = rB at x5 oB5 PP ⊢
  obtain ⟨nn, bxw6⟩ := box_new2 w5 rB.c
  have m6 := m5.below nn
  have x6 := x5.below nn
  have s6 := s5.below nn
  have a6 := a5.below nn
  have lo6 := lo5.trans (nn.mono lo5.size)
  have oA6 := own_below oA5 nn
  have oB6 := own_below oB5 nn
  have bA6 := bA5.below nn
  clear m5 x5 s5 a5 lo5 oA5 oB5 bA5
  go_upto_region 11 with (first | (refine wpList_store_row rfl 25 _ _ rfl w5.heap.size _ rfl rfl _ _ (told_box w5) (infoCs _) (cells_same _ _) (cells_one _) ?_))
  generalize (w5.alloc (.cells (cells nought) 25)).setRow w5.heap.size (cells rB.c) = w6 at nn bxw6 m6 x6 s6 a6 lo6 oA6 oB6 bA6 ⊢
  have hzw6 := nn.size
  clear nn

  have fin : ∀ W : World, Below w.heap.size w W → Calls Try.prog 9 #[] W fun e w' => e = .returned (.bool true) ∧ Below w.heap.size w w' := fun W hW => (fixed4_any W).mono fun _ _ h => ⟨h.1, hW.trans (h.2.mono hW.size)⟩
  by_cases h6 : rB.e = 6
  · obtain ⟨hAC, hle, hnk⟩ := PP.goes h6
    have hno := PP.nought
    obtain ⟨cA1, cA2⟩ := PP.countA
    obtain ⟨cB1, cB2⟩ := PP.countB
    clear PP
    have t6 : (rB.e != 6) = false := by rw [h6]; rfl
    generalize hrC : runM (F.toNat - k.toNat) rB.c rB.l (V.zs.drop rB.calls.length) = rC at hAC
    obtain ⟨avB, cpB, rfl⟩ := own_form oB6
    have HAC := hideC hAC
    have H6 := hideC h6
    have HNK := hideC hnk
    clear hAC h6 hnk
    obtain ⟨D, hD, hD2, hD3, hDn, hD5⟩ : ∃ D : Int, F - k = D ∧ IntKind.i64.wrap (F - k) = D ∧ IntKind.i64.wrap D = D ∧ D.toNat = F.toNat - k.toNat ∧ D ≤ 60 := ⟨F - k, rfl, by rw [IntKind.wrap_i64]; omega, by rw [IntKind.wrap_i64]; omega, by omega, by omega⟩
    have tK : decide (V.zs.length < rB.calls.length) = false := decide_eq_false (by omega)
    have hleI : (rB.calls.length : Int) ≤ (V.zs.length : Int) := by omega
    have qa := s6.ans
    rw [ea] at qa
    have tB := bxw6.lt
    have hoA : ∀ j, vA.ownBlock = some j → j < w6.heap.size := fun j e => (oA6.lt j e).2
    have hoB : ∀ j, (Value.slice avB rB.calls.length cpB).ownBlock = some j → j < w6.heap.size := fun j e => (oB6.lt j e).2
    go_upto_region 15 with fail
    clear tK qa
    have m7 : MemAt w6.drew pb bm rA.l := m6.below (drewN_low w6 1 _)
    have x7 : MemAt w6.drew px mx rB.l := x6.below (drewN_low w6 1 _)
    have s7 : SceneAt w6.drew w.heap.size V := s6
    have a7 : AnsAt w6.drew (.slice ad V.zs.length cap) V.zs := a6.below (drewN_low w6 1 _)
    have lo7 : Below w.heap.size w w6.drew := lo6.trans (drewN_low w6 1 _)
    have oA7 : w6.drew.ownsRow w2.heap.size 72 8 vA rA.calls.length (askAll rA.calls) := own_below oA6 (drewN_low w6 1 _)
    have oB7 : w6.drew.ownsRow w4.heap.size 72 8 (.slice avB rB.calls.length cpB) rB.calls.length (askAll rB.calls) := own_below oB6 (drewN_low w6 1 _)
    have bA7 : BoxC w6.drew w3.heap.size rA.c := bA6
    have bB7 : BoxC w6.drew w5.heap.size rB.c := bxw6
    have hz7 : w6.heap.size ≤ w6.drew.heap.size := Nat.le_refl _
    clear m6 x6 s6 a6 lo6 oA6 oB6 bA6 bxw6
    refine wp_region_noPanic ?_
    refine wp_region_held_drew (S := fun W => BoxC W w5.heap.size rB.c ∧ SceneAt W w.heap.size V) (by kernel_rfl) (show BoxC w6.drew w5.heap.size rB.c ∧ SceneAt w6.drew w.heap.size V from ⟨bB7, s7⟩) (fun s0 => ?_)
    refine wpAnyH_takeAt (i := 0) (v := .agg (cells rB.c)) rfl (by kernel_rfl) (by kernel_rfl) (by kernel_rfl) (fun _ _ _ h => h) (yieldsIf_row (by rfl) _ _ rfl w5.heap.size rfl _ _ _ _ (fun _ h => h.1) Try.underlying25 rfl (infoCs _)) s0 ?_
    simp only [Act.put, List.setIfInBounds_toArray, List.set_cons_zero, List.set_cons_succ]
    refine wpAnyH_takeAt (i := 1) (v := ?_) rfl (by kernel_rfl) (by kernel_rfl) (by kernel_rfl) (fun _ _ _ h => h) (Or.inl ⟨by rfl, ?_⟩) s0 ?_
    rotate_left 1
    · intro w' hS; clear hS
      go_simp <;> with_reducible rfl
    try simp only [Act.put, List.setIfInBounds_toArray, List.set_cons_zero, List.set_cons_succ]
    refine wpAnyH_takeAt (i := 2) (v := ?_) rfl (by kernel_rfl) (by kernel_rfl) (by kernel_rfl) (fun _ _ _ h => h) (Or.inl ⟨by rfl, ?_⟩) s0 ?_
    rotate_left 1
    · intro w' hS; clear hS
      go_simp <;> with_reducible rfl
    try simp only [Act.put, List.setIfInBounds_toArray, List.set_cons_zero, List.set_cons_succ]
    refine wpAnyH_takeAt (i := 3) (v := ?_) rfl (by kernel_rfl) (by kernel_rfl) (by kernel_rfl) (fun _ _ _ h => h) (Or.inl ⟨by rfl, ?_⟩) s0 ?_
    rotate_left 1
    · intro w' hS; have qa : w'.cell? ⟨w.heap.size, 37, none⟩ = some (.slice ad V.zs.length cap) := (SceneAt.ans hS.2).trans (congrArg some ea); clear hS
      go_simp <;> with_reducible rfl
    try simp only [Act.put, List.setIfInBounds_toArray, List.set_cons_zero, List.set_cons_succ]
    refine wpAnyH_takeAt (i := 4) (v := ?_) rfl (by kernel_rfl) (by kernel_rfl) (by kernel_rfl) (fun _ _ _ h => h) (Or.inl ⟨by rfl, ?_⟩) s0 ?_
    rotate_left 1
    · intro w' hS; clear hS
      go_simp <;> with_reducible rfl
    try simp only [Act.put, List.setIfInBounds_toArray, List.set_cons_zero, List.set_cons_succ]
    refine wpAnyH_takeAt (i := 5) (v := ?_) rfl (by kernel_rfl) (by kernel_rfl) (by kernel_rfl) (fun _ _ _ h => h) (Or.inl ⟨by rfl, ?_⟩) s0 ?_
    rotate_left 1
    · intro w' hS; clear hS
      go_simp <;> with_reducible rfl
    try simp only [Act.put, List.setIfInBounds_toArray, List.set_cons_zero, List.set_cons_succ]
    refine wpAnyH_takeAt (i := 6) (v := ?_) rfl (by kernel_rfl) (by kernel_rfl) (by kernel_rfl) (fun _ _ _ h => h) (Or.inl ⟨by rfl, ?_⟩) s0 ?_
    rotate_left 1
    · intro w' hS; clear hS
      go_simp <;> with_reducible rfl
    try simp only [Act.put, List.setIfInBounds_toArray, List.set_cons_zero, List.set_cons_succ]
    refine wpAnyH_takeAt (i := 7) (v := ?_) rfl (by kernel_rfl) (by kernel_rfl) (by kernel_rfl) (fun _ _ _ h => h) (Or.inl ⟨by rfl, ?_⟩) s0 ?_
    rotate_left 1
    · intro w' hS; clear hS
      go_simp <;> with_reducible rfl
    try simp only [Act.put, List.setIfInBounds_toArray, List.set_cons_zero, List.set_cons_succ]
    refine wpAnyH_takeAt (i := 8) (v := ?_) rfl (by kernel_rfl) (by kernel_rfl) (by kernel_rfl) (fun _ _ _ h => h) (Or.inl ⟨by rfl, ?_⟩) s0 ?_
    rotate_left 1
    · intro w' hS; clear hS
      go_simp <;> with_reducible rfl
    try simp only [Act.put, List.setIfInBounds_toArray, List.set_cons_zero, List.set_cons_succ]
    refine wpAnyH_takeAt (i := 9) (v := ?_) rfl (by kernel_rfl) (by kernel_rfl) (by kernel_rfl) (fun _ _ _ h => h) (Or.inl ⟨by rfl, ?_⟩) s0 ?_
    rotate_left 1
    · intro w' hS; clear hS
      go_simp <;> with_reducible rfl
    try simp only [Act.put, List.setIfInBounds_toArray, List.set_cons_zero, List.set_cons_succ]
    refine wpAnyH_ready (rs := [10, 16]) (by kernel_rfl) (by simp) (AllReadyH.cons (at_drop rfl) (fun K hK => ?_) (AllReadyH.cons (at_drop rfl) (fun K hK => ?_) AllReadyH.nil))
    · go_simp
      have hrun := run_any rB.c _ (V.zs.drop rB.calls.length) D (by omega) w6.drew x7 (ansAt_drop a7 rfl hle)
      rw [hno, hDn, hrC] at hrun
      refine hrun.mono ?_
      rintro e w8 ⟨vC, rfl, x8, gg, oC8⟩
      dsimp only
      have m8 := m7.apart gg (by omega) (by omega)
      have s8 := s7.grown gg (by omega)
      have lo8 := below_grown lo7 gg (by omega) lo7.size
      have oA8 := own_kept oA7 gg (by omega)
      have oB8 := own_kept oB7 gg (by omega)
      have bA8 := Box.grown bA7 gg (by omega)
      have bB8 := Box.grown bB7 gg (by omega)
      have hz8 := gg.size
      have gg0 := gg
      clear hrun x7 m7 a7 lo7 oA7 oB7 bA7 gg
      have s1 : BoxC w8 w5.heap.size rB.c ∧ SceneAt w8 w.heap.size V := ⟨bB8, s8⟩
      refine hK.out _ _ s1 (fun _ => ?_)
      clear hK K
      try simp only [Act.put, List.setIfInBounds_toArray, List.set_cons_zero, List.set_cons_succ]
      refine wpAnyH_takeAt (i := 11) (v := ?_) rfl (by kernel_rfl) (by kernel_rfl) (by kernel_rfl) (fun _ _ _ h => h) (Or.inl ⟨by rfl, ?_⟩) s1 ?_
      rotate_left 1
      · intro w' hS; clear hS
        go_simp <;> with_reducible rfl
      try simp only [Act.put, List.setIfInBounds_toArray, List.set_cons_zero, List.set_cons_succ]
      refine wpAnyH_takeAt (i := 12) (v := ?_) rfl (by kernel_rfl) (by kernel_rfl) (by kernel_rfl) (fun _ _ _ h => h) (Or.inl ⟨by rfl, ?_⟩) s1 ?_
      rotate_left 1
      · intro w' hS; clear hS
        go_simp <;> with_reducible rfl
      try simp only [Act.put, List.setIfInBounds_toArray, List.set_cons_zero, List.set_cons_succ]
      refine wpAnyH_takeAt (i := 13) (v := ?_) rfl (by kernel_rfl) (by kernel_rfl) (by kernel_rfl) (fun _ _ _ h => h) (Or.inl ⟨by rfl, ?_⟩) s1 ?_
      rotate_left 1
      · intro w' hS; clear hS
        go_simp <;> with_reducible rfl
      try simp only [Act.put, List.setIfInBounds_toArray, List.set_cons_zero, List.set_cons_succ]
      refine wpAnyH_takeAt (i := 14) (v := ?_) rfl (by kernel_rfl) (by kernel_rfl) (by kernel_rfl) (fun _ _ _ h => h) (Or.inl ⟨by rfl, ?_⟩) s1 ?_
      rotate_left 1
      · intro w' hS; clear hS
        go_simp <;> with_reducible rfl
      try simp only [Act.put, List.setIfInBounds_toArray, List.set_cons_zero, List.set_cons_succ]
      refine wpAnyH_takeAt (i := 15) (v := ?_) rfl (by kernel_rfl) (by kernel_rfl) (by kernel_rfl) (fun _ _ _ h => h) (Or.inl ⟨by rfl, ?_⟩) s1 ?_
      rotate_left 1
      · intro w' hS; clear hS
        go_simp <;> with_reducible rfl
      try simp only [Act.put, List.setIfInBounds_toArray, List.set_cons_zero, List.set_cons_succ]
      refine wpAnyH_ready (rs := [16]) (by kernel_rfl) (by simp) (allReady_at rfl (fun K hK => ?_))
      go_simp
      have n9 : Below w8.heap.size w8 (w8.alloc (.cells (cells nought) 25)) := (Below.refl _ _).alloc (Nat.le_refl _) _
      have s2 : BoxC (w8.alloc (.cells (cells nought) 25)) w5.heap.size rB.c ∧ SceneAt (w8.alloc (.cells (cells nought) 25)) w.heap.size V := ⟨bB8.below n9, s8.below n9⟩
      refine hK.out _ _ s2 (fun _ => ?_)
      clear hK K
      try simp only [Act.put, List.setIfInBounds_toArray, List.set_cons_zero, List.set_cons_succ]
      refine wpAnyH_ready (rs := [17]) (by kernel_rfl) (by simp) (allReady_at rfl (fun K hK => ?_))
      rw [if_pos (by rfl)]
      refine wp_store_row 25 _ _ rfl w8.heap.size (cells rC.c) rfl rfl _ _ (told_box w8) (infoCs _) (cells_same _ _) (cells_one _) ?_
      obtain ⟨nn, bE⟩ := box_new2 w8 rC.c
      have s3 : BoxC ((w8.alloc (.cells (cells nought) 25)).setRow w8.heap.size (cells rC.c)) w5.heap.size rB.c ∧ SceneAt ((w8.alloc (.cells (cells nought) 25)).setRow w8.heap.size (cells rC.c)) w.heap.size V := ⟨bB8.below nn, s8.below nn⟩
      refine hK.out _ _ s3 (fun _ => ?_)
      clear hK K
      try simp only [Act.put, List.setIfInBounds_toArray, List.set_cons_zero, List.set_cons_succ]
      refine wpAnyH_takeAt (i := 18) (v := ?_) rfl (by kernel_rfl) (by kernel_rfl) (by kernel_rfl) (fun _ _ _ h => h) (Or.inl ⟨by rfl, ?_⟩) s3 ?_
      rotate_left 1
      · intro w' hS; clear hS
        go_simp <;> with_reducible rfl
      try simp only [Act.put, List.setIfInBounds_toArray, List.set_cons_zero, List.set_cons_succ]
      refine wpAnyH_takeAt (i := 19) (v := ?_) rfl (by kernel_rfl) (by kernel_rfl) (by kernel_rfl) (fun _ _ _ h => h) (Or.inl ⟨by rfl, ?_⟩) s3 ?_
      rotate_left 1
      · intro w' hS; clear hS
        go_simp <;> with_reducible rfl
      try simp only [Act.put, List.setIfInBounds_toArray, List.set_cons_zero, List.set_cons_succ]
      refine wpAnyH_takeAt (i := 20) (v := ?_) rfl (by kernel_rfl) (by kernel_rfl) (by kernel_rfl) (fun _ _ _ h => h) (Or.inl ⟨by rfl, ?_⟩) s3 ?_
      rotate_left 1
      · intro w' hS; clear hS
        go_simp <;> with_reducible rfl
      try simp only [Act.put, List.setIfInBounds_toArray, List.set_cons_zero, List.set_cons_succ]
      refine wpAnyH_done (by kernel_rfl) ?_ _
      refine NoPanic.normal ?_
      have m9 := m8.below nn
      have x9 := x8.below nn
      have lo9 := lo8.trans (nn.mono lo8.size)
      have oA9 := own_below oA8 nn
      have oB9 := own_below oB8 nn
      have oC9 := own_below oC8 nn
      have bA9 := bA8.below nn
      have hz9 := nn.size
      clear n9 nn m8 x8 lo8 oA8 oB8 oC8 bA8 bB8 s0 s1 s2 s3 s8
      generalize (w8.alloc (.cells (cells nought) 25)).setRow w8.heap.size (cells rC.c) = w9 at m9 x9 lo9 oA9 oB9 oC9 bA9 bE hz9 ⊢
      generalize (if cap = rB.calls.length then ad else Option.map (fun x => x.add rB.calls.length) ad) = adx
      obtain ⟨cA, lA, LA, eA, nA⟩ := rA
      have hh := HAC.out
      rw [← HNK.out] at hh
      unfold pre at hh
      simp only [Res.mk.injEq] at hh
      obtain ⟨rfl, rfl, rfl, rfl, rfl⟩ := hh
      dsimp only at m9 oA9 bA9 cA1 cA2 ⊢
      have hE := empty_calls w9
      have eB := own_below oB9 ((Below.refl _ w9).alloc (Nat.le_refl _) (.cells #[] 72))
      have hlen := x9.rise.length
      go_upto_region 17 with (first
        | (at_builtin; refine wpList_append_calls rfl _ _ rfl rfl hE rfl eB (by simp) (by omega) (by simp) ?_; intro v1 w10 o10 g10)
        | go_in)
      have lo10 : Below w9.heap.size w9 w10 := ((Below.refl _ w9).alloc (Nat.le_refl _) (.cells #[] 72)).trans (below_grown (Below.refl _ _) g10 (Nat.le_refl _) (by simp))
      have hz10 := lo10.size
      have oC10 := own_below oC9 lo10
      clear hE eB g10
      have cC : rC.calls.length ≤ 60 := by simp only [List.length_append] at cA1; omega
      go_upto_region 18 with (first
        | (at_builtin; refine wpList_append_calls rfl _ _ rfl rfl o10 rfl oC10 (by simp; omega) (by omega) (by omega) ?_; intro v2 w11 o11 g11)
        | go_in)
      have lo11 : Below w9.heap.size w9 w11 := lo10.trans ⟨g11.os, g11.tape, g11.output, by have := g11.size; omega, fun j hj => g11.block j (by omega) (fun e => by have := (o10.lt j e.symm).1; omega)⟩
      rw [List.nil_append] at o11
      have m12 := m9.below lo11
      have x12 := x9.below lo11
      have loA := lo9.trans (lo11.mono lo9.size)
      have oA12 := own_below oA9 lo11
      have bA12 := bA9.below lo11
      have bE12 := bE.below lo11
      clear m9 x9 lo9 oA9 oB9 oC9 bA9 bE o10 oC10 g11 lo10 lo11
      go_wp2_with (first | (refine wpList_load_rowG (by rfl) 25 _ rfl w3.heap.size rfl _ _ _ _ bA12 Try.underlying25 rfl (infoCs _) ?_) | (refine wpList_load_rowG (by rfl) 25 _ rfl w8.heap.size rfl _ _ _ _ bE12 Try.underlying25 rfl (infoCs _) ?_))
      refine (callsame_yes w11 oA12 o11 (by omega)).mono ?_
      rintro e w13 ⟨rfl, n, rfl⟩
      have m14 := m12.below (drewN_low w11 n _)
      have x14 := x12.below (drewN_low w11 n _)
      have loB := loA.trans (drewN_low w11 n _)
      clear m12 x12 loA oA12 o11 bA12 bE12
      go_wp2_with fail
      refine (cells_any _ m14).mono ?_
      rintro e w15 ⟨u, rfl, o15, l15⟩
      have y15 := x14.below l15
      have loC := loB.trans (l15.mono loB.size)
      clear m14 x14 l15 loB
      go_wp2_with fail
      refine (cells_any w15 y15).mono ?_
      rintro e w16 ⟨u', rfl, o16, l16⟩
      have o17 := own_below o15 l16
      have loD := loC.trans (l16.mono loC.size)
      clear y15 loC o15 l16
      go_wp2_with fail
      refine (same_yes w16 o17 o16 hlen).mono ?_
      rintro e w18 ⟨rfl, n', rfl⟩
      have loE := loD.trans (drewN_low w16 n' _)
      clear loD o16 o17
      go_wp2_with fail
      refine (fin _ loE).mono ?_
      rintro e w19 ⟨rfl, loF⟩
      go_wp2_with fail
      go_ret
      exact ⟨rfl, loF⟩
    · go_simp
      have nB : Below w6.drew.heap.size w6.drew (w6.alloc (.cells (cells nought) 25)).drew := (show Below w6.drew.heap.size w6.drew (w6.drew.alloc (.cells (cells nought) 25)) from (Below.refl _ _).alloc (Nat.le_refl _) _)
      have bN17 : BoxC (w6.alloc (.cells (cells nought) 25)).drew w6.heap.size nought := told_box w6
      have m17 := m7.below nB
      have x17 := x7.below nB
      have s17 := s7.below nB
      have a17 := a7.below nB
      have lo17 := lo7.trans (nB.mono lo7.size)
      have oA17 := own_below oA7 nB
      have oB17 := own_below oB7 nB
      have bA17 := bA7.below nB
      have bB17 := bB7.below nB
      have hz17 : (w6.alloc (.cells (cells nought) 25)).drew.heap.size = w6.heap.size + 1 := by simp
      clear nB m7 x7 s7 a7 lo7 oA7 oB7 bA7 bB7
      have s1 : BoxC (w6.alloc (.cells (cells nought) 25)).drew w5.heap.size rB.c ∧ SceneAt (w6.alloc (.cells (cells nought) 25)).drew w.heap.size V := ⟨bB17, s17⟩
      refine hK.out _ _ s1 (fun _ => ?_)
      clear hK K
      try simp only [Act.put, List.setIfInBounds_toArray, List.set_cons_zero, List.set_cons_succ]
      generalize (w6.alloc (.cells (cells nought) 25)).drew = w7 at bN17 m17 x17 s17 a17 lo17 oA17 oB17 bA17 bB17 hz17 s1 ⊢
      refine wpAnyH_ready (rs := [10]) (by kernel_rfl) (by simp) (allReady_at rfl (fun K hK => ?_))
      go_simp
      have hrun := run_any rB.c _ (V.zs.drop rB.calls.length) D (by omega) w7 x17 (ansAt_drop a17 rfl hle)
      rw [hno, hDn, hrC] at hrun
      refine hrun.mono ?_
      rintro e w8 ⟨vC, rfl, x18, gg, oC18⟩
      dsimp only
      have m18 := m17.apart gg (by omega) (by omega)
      have s18 := s17.grown gg (by omega)
      have lo18 := below_grown lo17 gg (by omega) lo17.size
      have oA18 := own_kept oA17 gg (by omega)
      have oB18 := own_kept oB17 gg (by omega)
      have bA18 := Box.grown bA17 gg (by omega)
      have bB18 := Box.grown bB17 gg (by omega)
      have hz18 := gg.size
      have gg0 := gg
      clear hrun x17 m17 a17 lo17 oA17 oB17 bA17 gg
      have bN18 := Box.grown bN17 gg0 (by omega)
      have s2 : BoxC w8 w5.heap.size rB.c ∧ SceneAt w8 w.heap.size V := ⟨bB18, s18⟩
      refine hK.out _ _ s2 (fun _ => ?_)
      clear hK K
      try simp only [Act.put, List.setIfInBounds_toArray, List.set_cons_zero, List.set_cons_succ]
      refine wpAnyH_takeAt (i := 11) (v := ?_) rfl (by kernel_rfl) (by kernel_rfl) (by kernel_rfl) (fun _ _ _ h => h) (Or.inl ⟨by rfl, ?_⟩) s2 ?_
      rotate_left 1
      · intro w' hS; clear hS
        go_simp <;> with_reducible rfl
      try simp only [Act.put, List.setIfInBounds_toArray, List.set_cons_zero, List.set_cons_succ]
      refine wpAnyH_takeAt (i := 12) (v := ?_) rfl (by kernel_rfl) (by kernel_rfl) (by kernel_rfl) (fun _ _ _ h => h) (Or.inl ⟨by rfl, ?_⟩) s2 ?_
      rotate_left 1
      · intro w' hS; clear hS
        go_simp <;> with_reducible rfl
      try simp only [Act.put, List.setIfInBounds_toArray, List.set_cons_zero, List.set_cons_succ]
      refine wpAnyH_takeAt (i := 13) (v := ?_) rfl (by kernel_rfl) (by kernel_rfl) (by kernel_rfl) (fun _ _ _ h => h) (Or.inl ⟨by rfl, ?_⟩) s2 ?_
      rotate_left 1
      · intro w' hS; clear hS
        go_simp <;> with_reducible rfl
      try simp only [Act.put, List.setIfInBounds_toArray, List.set_cons_zero, List.set_cons_succ]
      refine wpAnyH_takeAt (i := 14) (v := ?_) rfl (by kernel_rfl) (by kernel_rfl) (by kernel_rfl) (fun _ _ _ h => h) (Or.inl ⟨by rfl, ?_⟩) s2 ?_
      rotate_left 1
      · intro w' hS; clear hS
        go_simp <;> with_reducible rfl
      try simp only [Act.put, List.setIfInBounds_toArray, List.set_cons_zero, List.set_cons_succ]
      refine wpAnyH_takeAt (i := 15) (v := ?_) rfl (by kernel_rfl) (by kernel_rfl) (by kernel_rfl) (fun _ _ _ h => h) (Or.inl ⟨by rfl, ?_⟩) s2 ?_
      rotate_left 1
      · intro w' hS; clear hS
        go_simp <;> with_reducible rfl
      try simp only [Act.put, List.setIfInBounds_toArray, List.set_cons_zero, List.set_cons_succ]
      refine wpAnyH_ready (rs := [17]) (by kernel_rfl) (by simp) (allReady_at rfl (fun K hK => ?_))
      rw [if_pos (by rfl)]
      refine wp_store_row 25 _ _ rfl w6.heap.size (cells rC.c) rfl rfl _ _ bN18 (infoCs _) (cells_same _ _) (cells_one _) ?_
      have lo : Below w6.heap.size w8 (w8.setRow w6.heap.size (cells rC.c)) := below_row (Below.refl _ _) (Nat.le_refl _) _
      have bE : BoxC (w8.setRow w6.heap.size (cells rC.c)) w6.heap.size rC.c := bN18.setRow _
      have m9 := m18.low lo (by omega) (by omega)
      have x9 := x18.low lo (by omega) (by omega)
      have lo9 := lo18.trans (lo.mono (by omega))
      have oA9 := oA18.kept (grown_row w6.heap.size (cells rC.c)) (own_apart2 hoA (Nat.le_refl _))
      have oB9 := oB18.kept (grown_row w6.heap.size (cells rC.c)) (own_apart2 hoB (Nat.le_refl _))
      have oC9 := own_kept oC18 (grown_row w6.heap.size (cells rC.c)) (by omega)
      have bA9 := bA18.otherRow w6.heap.size (cells rC.c) (by omega)
      have hz9 : w8.heap.size = (w8.setRow w6.heap.size (cells rC.c)).heap.size := by simp
      have s3 : BoxC (w8.setRow w6.heap.size (cells rC.c)) w5.heap.size rB.c ∧ SceneAt (w8.setRow w6.heap.size (cells rC.c)) w.heap.size V := ⟨bB18.otherRow _ _ (by omega), scene_row s18 (by omega)⟩
      refine hK.out _ _ s3 (fun _ => ?_)
      clear hK K
      try simp only [Act.put, List.setIfInBounds_toArray, List.set_cons_zero, List.set_cons_succ]
      refine wpAnyH_takeAt (i := 18) (v := ?_) rfl (by kernel_rfl) (by kernel_rfl) (by kernel_rfl) (fun _ _ _ h => h) (Or.inl ⟨by rfl, ?_⟩) s3 ?_
      rotate_left 1
      · intro w' hS; clear hS
        go_simp <;> with_reducible rfl
      try simp only [Act.put, List.setIfInBounds_toArray, List.set_cons_zero, List.set_cons_succ]
      refine wpAnyH_takeAt (i := 19) (v := ?_) rfl (by kernel_rfl) (by kernel_rfl) (by kernel_rfl) (fun _ _ _ h => h) (Or.inl ⟨by rfl, ?_⟩) s3 ?_
      rotate_left 1
      · intro w' hS; clear hS
        go_simp <;> with_reducible rfl
      try simp only [Act.put, List.setIfInBounds_toArray, List.set_cons_zero, List.set_cons_succ]
      refine wpAnyH_takeAt (i := 20) (v := ?_) rfl (by kernel_rfl) (by kernel_rfl) (by kernel_rfl) (fun _ _ _ h => h) (Or.inl ⟨by rfl, ?_⟩) s3 ?_
      rotate_left 1
      · intro w' hS; clear hS
        go_simp <;> with_reducible rfl
      try simp only [Act.put, List.setIfInBounds_toArray, List.set_cons_zero, List.set_cons_succ]
      refine wpAnyH_done (by kernel_rfl) ?_ _
      refine NoPanic.normal ?_
      clear lo m18 x18 lo18 oA18 oB18 oC18 bA18 bB18 bN18 s0 s1 s2 s3 s18
      generalize (w8.setRow w6.heap.size (cells rC.c)) = w9 at m9 x9 lo9 oA9 oB9 oC9 bA9 bE hz9 ⊢
      generalize (if cap = rB.calls.length then ad else Option.map (fun x => x.add rB.calls.length) ad) = adx
      obtain ⟨cA, lA, LA, eA, nA⟩ := rA
      have hh := HAC.out
      rw [← HNK.out] at hh
      unfold pre at hh
      simp only [Res.mk.injEq] at hh
      obtain ⟨rfl, rfl, rfl, rfl, rfl⟩ := hh
      dsimp only at m9 oA9 bA9 cA1 cA2 ⊢
      have hE := empty_calls w9
      have eB := own_below oB9 ((Below.refl _ w9).alloc (Nat.le_refl _) (.cells #[] 72))
      have hlen := x9.rise.length
      go_upto_region 17 with (first
        | (at_builtin; refine wpList_append_calls rfl _ _ rfl rfl hE rfl eB (by simp) (by omega) (by simp) ?_; intro v1 w10 o10 g10)
        | go_in)
      have lo10 : Below w9.heap.size w9 w10 := ((Below.refl _ w9).alloc (Nat.le_refl _) (.cells #[] 72)).trans (below_grown (Below.refl _ _) g10 (Nat.le_refl _) (by simp))
      have hz10 := lo10.size
      have oC10 := own_below oC9 lo10
      clear hE eB g10
      have cC : rC.calls.length ≤ 60 := by simp only [List.length_append] at cA1; omega
      go_upto_region 18 with (first
        | (at_builtin; refine wpList_append_calls rfl _ _ rfl rfl o10 rfl oC10 (by simp; omega) (by omega) (by omega) ?_; intro v2 w11 o11 g11)
        | go_in)
      have lo11 : Below w9.heap.size w9 w11 := lo10.trans ⟨g11.os, g11.tape, g11.output, by have := g11.size; omega, fun j hj => g11.block j (by omega) (fun e => by have := (o10.lt j e.symm).1; omega)⟩
      rw [List.nil_append] at o11
      have m12 := m9.below lo11
      have x12 := x9.below lo11
      have loA := lo9.trans (lo11.mono lo9.size)
      have oA12 := own_below oA9 lo11
      have bA12 := bA9.below lo11
      have bE12 := bE.below lo11
      clear m9 x9 lo9 oA9 oB9 oC9 bA9 bE o10 oC10 g11 lo10 lo11
      go_wp2_with (first | (refine wpList_load_rowG (by rfl) 25 _ rfl w3.heap.size rfl _ _ _ _ bA12 Try.underlying25 rfl (infoCs _) ?_) | (refine wpList_load_rowG (by rfl) 25 _ rfl w6.heap.size rfl _ _ _ _ bE12 Try.underlying25 rfl (infoCs _) ?_))
      refine (callsame_yes w11 oA12 o11 (by omega)).mono ?_
      rintro e w13 ⟨rfl, n, rfl⟩
      have m14 := m12.below (drewN_low w11 n _)
      have x14 := x12.below (drewN_low w11 n _)
      have loB := loA.trans (drewN_low w11 n _)
      clear m12 x12 loA oA12 o11 bA12 bE12
      go_wp2_with fail
      refine (cells_any _ m14).mono ?_
      rintro e w15 ⟨u, rfl, o15, l15⟩
      have y15 := x14.below l15
      have loC := loB.trans (l15.mono loB.size)
      clear m14 x14 l15 loB
      go_wp2_with fail
      refine (cells_any w15 y15).mono ?_
      rintro e w16 ⟨u', rfl, o16, l16⟩
      have o17 := own_below o15 l16
      have loD := loC.trans (l16.mono loC.size)
      clear y15 loC o15 l16
      go_wp2_with fail
      refine (same_yes w16 o17 o16 hlen).mono ?_
      rintro e w18 ⟨rfl, n', rfl⟩
      have loE := loD.trans (drewN_low w16 n' _)
      clear loD o16 o17
      go_wp2_with fail
      refine (fin _ loE).mono ?_
      rintro e w19 ⟨rfl, loF⟩
      go_wp2_with fail
      go_ret
      exact ⟨rfl, loF⟩
  · have hAB := PP.ends h6
    have t6 : (rB.e != 6) = true := by simpa using h6
    obtain ⟨cB1, cB2⟩ := PP.countB
    clear PP
    subst hAB
    have hlen := x6.rise.length
    go_upto_region 12 with fail
    go_wp2_with (first | (refine wpList_load_rowG (by rfl) 25 _ rfl w3.heap.size rfl _ _ _ _ bA6 Try.underlying25 rfl (infoCs _) ?_) | (refine wpList_load_rowG (by rfl) 25 _ rfl w5.heap.size rfl _ _ _ _ bxw6 Try.underlying25 rfl (infoCs _) ?_))
    refine (callsame_yes w6 oA6 oB6 (by omega)).mono ?_
    rintro e w7 ⟨rfl, n, rfl⟩
    have m7 := m6.below (drewN_low w6 n _)
    have x7 := x6.below (drewN_low w6 n _)
    have lo7 := lo6.trans (drewN_low w6 n _)
    clear m6 x6 lo6 oA6 oB6 bA6 bxw6
    go_wp2_with fail
    refine (cells_any _ m7).mono ?_
    rintro e w12 ⟨u, rfl, o12, l12⟩
    have y12 := x7.below l12
    have lo12 := lo7.trans (l12.mono lo7.size)
    clear m7 x7 l12 lo7
    go_wp2_with fail
    refine (cells_any w12 y12).mono ?_
    rintro e w13 ⟨u', rfl, o13, l13⟩
    have o14 := own_below o12 l13
    have lo13 := lo12.trans (l13.mono lo12.size)
    clear y12 lo12 o12 l13
    go_wp2_with fail
    refine (same_yes w13 o14 o13 hlen).mono ?_
    rintro e w14 ⟨rfl, n, rfl⟩
    have lo14 := lo13.trans (drewN_low w13 n _)
    clear lo13 o13 o14
    go_wp2_with fail
    refine (fin _ lo14).mono ?_
    rintro e w15 ⟨rfl, lo15⟩
    go_wp2_with fail
    go_ret
    exact ⟨rfl, lo15⟩
end Go.Proofs.Ytilphdfobflbiaa
namespace Go.Proofs.Ytilphdfobflbiaa.cpuParts
open Go.ChangeShapes Go.WideShapes Go.ChangeAt Go.RowKit
set_option linter.unusedVariables false

theorem own : ownKnob Try.prog.godebug = none := by kernel_rfl

set_option maxRecDepth 100000 in
theorem lifted (os : Os) (started : os.Started) (H : Type) (enc : TypeId × Value → H) :
    ReturnsInHanded {} Try.checked os 4 .any (Rows.cpuPartsSpec.pre6 enc Try.prog Try.f4 Rows.cpuPartsRow.domain false) (Rows.cpuPartsSpec.post enc Try.prog Try.f4 false true false false) := by
  refine returnsInHanded_of_change (C := Try.checked) own started (by kernel_rfl) Try.func4
    (ChangeSpec.witness6 (enc := enc) (C := Try.checked) false ⟨#[], #[.agg #[.int .u32 0, .int .u32 0, .int .u32 0, .int .u32 0, .int .u32 0, .int .u32 0, .int .u32 0, .int .u32 0, .int .u32 0, .int .u32 0, .int .u32 0, .int .u32 0, .int .u32 0, .int .u32 0, .int .u32 0, .int .u32 0, .int .u32 0, .int .u32 0, .int .u32 0, .int .u32 0, .int .u32 0, .int .u32 0, .int .u32 0, .int .u32 0, .int .u32 0, .int .u32 0, .int .u32 0, .int .u32 0, .int .u32 0, .int .u32 0, .int .u32 0, .int .u32 0, .int .u32 0, .int .u32 0, .int .u32 0, .string ⟨#[]⟩, .string ⟨#[]⟩, .slice none 0 0, .int .i64 0], .int .i64 0], []⟩ 8 (by kernel_rfl) (by kernel_rfl) (by kernel_rfl) (by kernel_rfl)) ?_
  intro W base args ds gs before hval0 hW hcnd _
  have hval : ∀ (j : Nat) t v, Try.f4.params[j]? = some t → args[j]? = some v → Value.okWide Try.prog W .any base t v := hval0
  have hW' := hW
  obtain ⟨p, q, hA0, hV, rfl, hfz, hnd⟩ := hW
  have hA : DataW.TrodAll enc Try.prog W 0 (fun _ => true) true Try.f4.params.toList args.toList ds p := hA0
  rw [Try.params4] at hA hval
  obtain ⟨v0, vs0, d0, ds0, p0, q0, hargs, rfl, rfl, h0, r0⟩ := trodAll_cons hA
  obtain ⟨v1, vs1, d1, ds1, p1, q1, rfl, rfl, rfl, h1, r1⟩ := trodAll_cons r0
  obtain ⟨rfl, rfl, rfl⟩ := trodAll_nil r1
  obtain rfl : args = #[v0, v1] := by cases args; simp_all
  obtain ⟨rfl, rfl⟩ := trodVars_none hV
  have hlt : ∀ x ∈ p0 ++ p1, x.block < W.heap.size := fun x hx => by simpa using hW'.lt x (by simpa using hx)
  have k0 := h0
  have l0 : ∀ x ∈ p0, x.block < W.heap.size := fun x hx => hlt x (by simp [hx])
  have k1 := h1
  have l1 : ∀ x ∈ p1, x.block < W.heap.size := fun x hx => hlt x (by simp [hx])
  obtain ⟨V0, hV0, rfl⟩ := open_world (hval 0 34 v0 rfl rfl) h0
  obtain ⟨a1, rfl, rfl, rfl, w1⟩ := open_int Try.underlying3 (hval 1 3 v1 rfl rfl) h1
  clear hA0 hval0
  refine (cpuParts_walk V0 a1 W hV0 (bounds_i64 w1)).mono fun e W' ⟨he, hg⟩ => ?_
  subst he
  exact ⟨_, rfl, _, _, _, [], _, [], hW', trodAll_mk1 (shut_bool Try.underlying4 _), (trodAll_cons_mk (Below.trod laidOut4 (by kernel_rfl) (of_decide_eq_true (by kernel_rfl)) k0 hg l0) (trodAll_cons_mk (Below.trod laidOut4 (by kernel_rfl) (of_decide_eq_true (by kernel_rfl)) k1 hg l1) trodAll_mk0)), rfl, hg.frame _, fun h => by cases h⟩

theorem over : Rows.cpuPartsRow.holds Try.pinned (OpenSpec.ofChange Rows.cpuPartsSpec) :=
  OpenClaim.holds_of_wide 4 Try.f4 rfl rfl rfl rfl rfl rfl rfl ⟨rfl, rfl, rfl, rfl, rfl⟩ rfl rfl rfl rfl rfl (by kernel_rfl) Try.func4 (by kernel_rfl)
    (of_decide_eq_true (by kernel_rfl)) (by unfold Func.isWrapper; first | (rw [if_pos (by decide +kernel)]; kernel_rfl) | (rw [if_neg (by decide +kernel)]; exact ⟨rfl, rfl⟩))
    (fun os started H enc _ => lifted os started H enc)

theorem proved : Rows.CpuPartsSaid :=
  over
#print axioms proved
end Go.Proofs.Ytilphdfobflbiaa.cpuParts
