/-
  CpuRuns answers true of every scene. There are no conditions.
  The walk of CpuRuns: it answers true of any scene.
-/
import Derived.Test.YtilphdfobflbiaaGreatRows
import Derived.WalkKit
import Derived.ProofKit
import Derived.OpenShut
import Derived.Carry
import Derived.Test.YtilphdfobflbiaaGreatZq3
import Derived.Test.YtilphdfobflbiaaGreatZx
import Derived.Test.YtilphdfobflbiaaGreatZz
namespace Go.Proofs.YtilphdfobflbiaaGreat
open Go.RowKit Go.Maps Cp Ip Mm
set_option linter.unusedSimpArgs false

set_option maxRecDepth 100000 in
set_option maxHeartbeats 3000000 in
theorem cpuRuns_walk (V : Scene) (w : World) (hV : SceneOk w V) : Calls Tryz.prog 4 #[.agg (wcells V)] w fun e w' => e = .returned (.bool true) ∧ Below w.heap.size w w' := by
  have hz := zeroC
  have he := eqlC
  have sc0 := SceneAt.new w V
  have lo0 : Below w.heap.size w (w.alloc (.cells (wcells V) 28)) := (Below.refl _ _).alloc (Nat.le_refl _) _
  have hV0 := hV.below lo0
  go_enter Tryz.func4, Tryz.ntmps4
  go_upto_region 1 with fail
  generalize hw0 : w.alloc (.cells (wcells V) 28) = w0 at sc0 lo0 hV0 ⊢
  have hz0 : w0.heap.size = w.heap.size + 1 := by rw [← hw0]; simp
  clear hw0
  go_wp2_with (first | (refine wpList_load_row rfl 28 _ rfl w.heap.size rfl _ _ _ _ sc0 Tryz.underlying28 rfl (infoW _) ?_))
  refine (laid_any V w0 hV0).mono ?_
  rintro e w1 ⟨pb, bm, kb, rfl, m1, r1, hp1, hb1, l1⟩
  have s1 := sc0.below l1
  have lo1 := lo0.trans (l1.mono lo0.size)
  have hz1 := l1.size
  have hbm1 := m1.lt'
  have hpm1 := m1.lt
  have hkb1 := r1.lt
  have hkb0 := r1.base
  have hA0 := hV0.ans
  have l1c := l1
  clear sc0 lo0 l1 hV0
  generalize laidL V = l at m1 r1
  have a1 := hA0.below l1c
  have qa := s1.ans
  have qf := s1.fuel
  obtain ⟨ad, cap, ea, _, _⟩ := id a1
  rw [ea] at qa a1
  generalize hf : V.fuel = f at qf
  go_wp2_with (first | (refine wpList_load_cpu (by rfl) _ rfl w.heap.size rfl V s1 ?_))
  refine (run_any V.c _ V.zs (min f 60) (by omega) w1 m1 a1).mono ?_
  rintro e w2 ⟨vA, rfl, m2, g2, oA2⟩
  have s2 := s1.grown g2 (by omega)
  have r2 := r1.apart m1 g2
  have a2 := ansAt_grown a1 m1 g2
  have lo2 := below_grown lo1 g2 (by omega) lo1.size
  have hz2 := g2.size
  clear m1 r1 s1 lo1 g2 qa qf a1
  have HR := hideC (show ∀ W : World, RefAt W w0.heap.size kb l → w0.heap.size ≤ W.heap.size → AnsAt W (.slice ad V.zs.length cap) V.zs → _ from fun W hr hb ha => rrun_any V.c _ V.zs (min f 60) (by omega) W hr hb ha)
  have CC := run_counts (min f 60).toNat (zr V.c) l V.zs
  generalize runM (min f 60).toNat (zr V.c) l V.zs = o at m2 oA2 HR CC ⊢
  obtain ⟨C, L, K, E, N⟩ := o
  obtain ⟨C1, C2, _, _, _, _⟩ := CC
  dsimp only at m2 oA2 HR C1 C2 ⊢
  obtain ⟨n3, a3⟩ := box_new2 w2 C
  have m3 := m2.below n3
  have r3 := r2.below n3
  have s3 := s2.below n3
  have z3 := a2.below n3
  have oA3 := own_below oA2 n3
  have lo3 := lo2.trans (n3.mono lo2.size)
  clear m2 r2 s2 lo2 a2 oA2
  go_upto_region 5 with (first | (refine wpList_store_row rfl 25 _ _ rfl w2.heap.size _ rfl rfl _ _ (told_box w2) (infoCs _) (cells_same _ _) (cells_one _) ?_))
  generalize (w2.alloc (.cells (cells nought) 25)).setRow w2.heap.size (cells C) = w3 at n3 a3 m3 r3 s3 lo3 z3 oA3 ⊢
  have hz3 := n3.size
  have t3 := a3.lt
  clear n3
  have qa := s3.ans
  rw [ea] at qa
  have qf := s3.fuel
  rw [hf] at qf
  go_wp2_with (first | (refine wpList_load_cpu (by rfl) _ rfl w.heap.size rfl V s3 ?_))
  refine (HR.out w3 r3 (by omega) z3).mono ?_
  rintro e w4 ⟨vB, rfl, r4, g4, oB4⟩
  obtain ⟨n1, n2⟩ := mem_apart r3 m3
  dsimp only at r4 oB4 ⊢
  have m4 := m3.apart g4 n1 n2
  have a4 := Box.grown a3 g4 (by omega)
  have oA4 := own_kept oA3 g4 (by omega)
  have lo4 := below_grown lo3 g4 (by omega) lo3.size
  have hz4 := g4.size
  clear m3 r3 a3 s3 lo3 g4 HR qa qf z3 oA3
  obtain ⟨n5, b5⟩ := box_new2 w4 C
  have m5 := m4.below n5
  have r5 := r4.below n5
  have a5 := a4.below n5
  have oA5 := own_below oA4 n5
  have oB5 := own_below oB4 n5
  have lo5 := lo4.trans (n5.mono lo4.size)
  clear m4 r4 a4 lo4 oA4 oB4
  go_upto_region 6 with (first | (refine wpList_store_row rfl 25 _ _ rfl w4.heap.size _ rfl rfl _ _ (told_box w4) (infoCs _) (cells_same _ _) (cells_one _) ?_))
  generalize (w4.alloc (.cells (cells nought) 25)).setRow w4.heap.size (cells C) = w5 at n5 b5 m5 r5 a5 lo5 oA5 oB5 ⊢
  clear n5
  obtain ⟨kv, kc, ko⟩ := r5.got
  have hlen := m5.rise.length
  have m6 : MemAt w5.drew pb bm L := m5.below (drewN_low w5 1 _)
  have ko6 : w5.drew.ownsRow w0.heap.size 66 2 kv L.length (cellsOf L) := ko
  have lo6 : Below w.heap.size w w5.drew := lo5.trans (drewN_low w5 1 _)
  have oA6 : w5.drew.ownsRow w1.heap.size 77 8 vA K.length (askAll K) := oA5
  have oB6 : w5.drew.ownsRow w3.heap.size 77 8 vB K.length (askAll K) := oB5
  refine wp_region_noPanic ?_
  refine wp_region_held_drew (S := fun W => BoxC W w2.heap.size C ∧ BoxC W w4.heap.size C ∧ W.cell? ⟨kb, 0, none⟩ = some kv) (by kernel_rfl) (show BoxC w5.drew w2.heap.size C ∧ BoxC w5.drew w4.heap.size C ∧ w5.drew.cell? ⟨kb, 0, none⟩ = some kv from ⟨a5, b5, heap_cell kc⟩) (fun s0 => ?_)
  refine wpAnyH_takeAt (i := 0) (v := .agg (cells C)) rfl (by kernel_rfl) (by kernel_rfl) (by kernel_rfl) (fun _ _ _ h => h) (yieldsIf_row (by rfl) _ _ rfl (w2.heap.size) rfl _ _ _ _ (fun _ h => h.1) Tryz.underlying25 rfl (infoCs _)) s0 ?_
  simp only [Act.put, List.setIfInBounds_toArray, List.set_cons_zero, List.set_cons_succ]
  refine wpAnyH_takeAt (i := 1) (v := .agg (cells C)) rfl (by kernel_rfl) (by kernel_rfl) (by kernel_rfl) (fun _ _ _ h => h) (yieldsIf_row (by rfl) _ _ rfl (w4.heap.size) rfl _ _ _ _ (fun _ h => h.2.1) Tryz.underlying25 rfl (infoCs _)) s0 ?_
  simp only [Act.put, List.setIfInBounds_toArray, List.set_cons_zero, List.set_cons_succ]
  refine wpAnyH_takeAt (i := 2) (v := ?_) rfl (by kernel_rfl) (by kernel_rfl) (by kernel_rfl) (fun _ _ _ h => h) (Or.inl ⟨by rfl, ?_⟩) s0 ?_
  rotate_left 1
  · intro w' hS; have qk := hS.2.2; clear hS
    go_simp <;> with_reducible rfl
  try simp only [Act.put, List.setIfInBounds_toArray, List.set_cons_zero, List.set_cons_succ]
  refine wpAnyH_takeAt (i := 3) (v := ?_) rfl (by kernel_rfl) (by kernel_rfl) (by kernel_rfl) (fun _ _ _ h => h) (Or.inl ⟨by rfl, ?_⟩) s0 ?_
  rotate_left 1
  · intro w' hS; have qk := hS.2.2; clear hS
    go_simp <;> with_reducible rfl
  try simp only [Act.put, List.setIfInBounds_toArray, List.set_cons_zero, List.set_cons_succ]
  refine wpAnyH_takeAt (i := 4) (v := ?_) rfl (by kernel_rfl) (by kernel_rfl) (by kernel_rfl) (fun _ _ _ h => h) (Or.inl ⟨by rfl, ?_⟩) s0 ?_
  rotate_left 1
  · intro w' hS; have qk := hS.2.2; clear hS
    go_simp <;> with_reducible rfl
  try simp only [Act.put, List.setIfInBounds_toArray, List.set_cons_zero, List.set_cons_succ]
  refine wpAnyH_takeAt (i := 5) (v := ?_) rfl (by kernel_rfl) (by kernel_rfl) (by kernel_rfl) (fun _ _ _ h => h) (Or.inl ⟨by rfl, ?_⟩) s0 ?_
  rotate_left 1
  · intro w' hS; have qk := hS.2.2; clear hS
    go_simp <;> with_reducible rfl
  try simp only [Act.put, List.setIfInBounds_toArray, List.set_cons_zero, List.set_cons_succ]
  refine wpAnyH_ready (rs := [6]) (by kernel_rfl) (by simp) (allReady_at rfl (fun K_ hK => ?_))
  go_simp
  refine (callsame_yes w5.drew oA6 oB6 (by omega)).mono ?_
  rintro e w6 ⟨rfl, n0, rfl⟩
  dsimp only
  have sx0 : BoxC (w5.drew.drewN n0) w2.heap.size C ∧ BoxC (w5.drew.drewN n0) w4.heap.size C ∧ (w5.drew.drewN n0).cell? ⟨kb, 0, none⟩ = some kv := s0
  have m7 : MemAt (w5.drew.drewN n0) pb bm L := m6.below (drewN_low _ n0 _)
  have ko7' : (w5.drew.drewN n0).ownsRow w0.heap.size 66 2 kv L.length (cellsOf L) := ko6
  have lo6' : Below w.heap.size w (w5.drew.drewN n0) := lo6.trans (drewN_low _ n0 _)
  refine hK.out _ _ sx0 (fun _ => ?_)
  clear hK K_
  try simp only [Act.put, List.setIfInBounds_toArray, List.set_cons_zero, List.set_cons_succ]
  generalize w5.drew.drewN n0 = w6 at sx0 m7 ko7' lo6' ⊢
  refine wpAnyH_takeAt (i := 7) (v := ?_) rfl (by kernel_rfl) (by kernel_rfl) (by kernel_rfl) (fun _ _ _ h => h) (Or.inl ⟨by rfl, ?_⟩) sx0 ?_
  rotate_left 1
  · intro w' hS; have qk := hS.2.2; clear hS
    go_simp <;> with_reducible rfl
  try simp only [Act.put, List.setIfInBounds_toArray, List.set_cons_zero, List.set_cons_succ]
  refine wpAnyH_takeAt (i := 8) (v := ?_) rfl (by kernel_rfl) (by kernel_rfl) (by kernel_rfl) (fun _ _ _ h => h) (Or.inl ⟨by rfl, ?_⟩) sx0 ?_
  rotate_left 1
  · intro w' hS; have qk := hS.2.2; clear hS
    go_simp <;> with_reducible rfl
  try simp only [Act.put, List.setIfInBounds_toArray, List.set_cons_zero, List.set_cons_succ]
  refine wpAnyH_takeAt (i := 9) (v := ?_) rfl (by kernel_rfl) (by kernel_rfl) (by kernel_rfl) (fun _ _ _ h => h) (Or.inl ⟨by rfl, ?_⟩) sx0 ?_
  rotate_left 1
  · intro w' hS; have qk := hS.2.2; clear hS
    go_simp <;> with_reducible rfl
  try simp only [Act.put, List.setIfInBounds_toArray, List.set_cons_zero, List.set_cons_succ]
  refine wpAnyH_takeAt (i := 10) (v := ?_) rfl (by kernel_rfl) (by kernel_rfl) (by kernel_rfl) (fun _ _ _ h => h) (Or.inl ⟨by rfl, ?_⟩) sx0 ?_
  rotate_left 1
  · intro w' hS; have qk := hS.2.2; clear hS
    go_simp <;> with_reducible rfl
  try simp only [Act.put, List.setIfInBounds_toArray, List.set_cons_zero, List.set_cons_succ]
  refine wpAnyH_takeAt (i := 11) (v := ?_) rfl (by kernel_rfl) (by kernel_rfl) (by kernel_rfl) (fun _ _ _ h => h) (Or.inl ⟨by rfl, ?_⟩) sx0 ?_
  rotate_left 1
  · intro w' hS; have qk := hS.2.2; clear hS
    go_simp <;> with_reducible rfl
  try simp only [Act.put, List.setIfInBounds_toArray, List.set_cons_zero, List.set_cons_succ]
  refine wpAnyH_takeAt (i := 12) (v := ?_) rfl (by kernel_rfl) (by kernel_rfl) (by kernel_rfl) (fun _ _ _ h => h) (Or.inl ⟨by rfl, ?_⟩) sx0 ?_
  rotate_left 1
  · intro w' hS; have qk := hS.2.2; clear hS
    go_simp <;> with_reducible rfl
  try simp only [Act.put, List.setIfInBounds_toArray, List.set_cons_zero, List.set_cons_succ]
  refine wpAnyH_takeAt (i := 13) (v := ?_) rfl (by kernel_rfl) (by kernel_rfl) (by kernel_rfl) (fun _ _ _ h => h) (Or.inl ⟨by rfl, ?_⟩) sx0 ?_
  rotate_left 1
  · intro w' hS; have qk := hS.2.2; clear hS
    go_simp <;> with_reducible rfl
  try simp only [Act.put, List.setIfInBounds_toArray, List.set_cons_zero, List.set_cons_succ]
  refine wpAnyH_takeAt (i := 14) (v := ?_) rfl (by kernel_rfl) (by kernel_rfl) (by kernel_rfl) (fun _ _ _ h => h) (Or.inl ⟨by rfl, ?_⟩) sx0 ?_
  rotate_left 1
  · intro w' hS; have qk := hS.2.2; clear hS
    go_simp <;> with_reducible rfl
  try simp only [Act.put, List.setIfInBounds_toArray, List.set_cons_zero, List.set_cons_succ]
  refine wpAnyH_takeAt (i := 15) (v := ?_) rfl (by kernel_rfl) (by kernel_rfl) (by kernel_rfl) (fun _ _ _ h => h) (Or.inl ⟨by rfl, ?_⟩) sx0 ?_
  rotate_left 1
  · intro w' hS; have qk := hS.2.2; clear hS
    go_simp <;> with_reducible rfl
  try simp only [Act.put, List.setIfInBounds_toArray, List.set_cons_zero, List.set_cons_succ]
  refine wpAnyH_takeAt (i := 16) (v := ?_) rfl (by kernel_rfl) (by kernel_rfl) (by kernel_rfl) (fun _ _ _ h => h) (Or.inl ⟨by rfl, ?_⟩) sx0 ?_
  rotate_left 1
  · intro w' hS; have qk := hS.2.2; clear hS
    go_simp <;> with_reducible rfl
  try simp only [Act.put, List.setIfInBounds_toArray, List.set_cons_zero, List.set_cons_succ]
  refine wpAnyH_takeAt (i := 17) (v := ?_) rfl (by kernel_rfl) (by kernel_rfl) (by kernel_rfl) (fun _ _ _ h => h) (Or.inl ⟨by rfl, ?_⟩) sx0 ?_
  rotate_left 1
  · intro w' hS; have qk := hS.2.2; clear hS
    go_simp <;> with_reducible rfl
  try simp only [Act.put, List.setIfInBounds_toArray, List.set_cons_zero, List.set_cons_succ]
  refine wpAnyH_takeAt (i := 18) (v := ?_) rfl (by kernel_rfl) (by kernel_rfl) (by kernel_rfl) (fun _ _ _ h => h) (Or.inl ⟨by rfl, ?_⟩) sx0 ?_
  rotate_left 1
  · intro w' hS; have qk := hS.2.2; clear hS
    go_simp <;> with_reducible rfl
  try simp only [Act.put, List.setIfInBounds_toArray, List.set_cons_zero, List.set_cons_succ]
  refine wpAnyH_takeAt (i := 19) (v := ?_) rfl (by kernel_rfl) (by kernel_rfl) (by kernel_rfl) (fun _ _ _ h => h) (Or.inl ⟨by rfl, ?_⟩) sx0 ?_
  rotate_left 1
  · intro w' hS; have qk := hS.2.2; clear hS
    go_simp <;> with_reducible rfl
  try simp only [Act.put, List.setIfInBounds_toArray, List.set_cons_zero, List.set_cons_succ]
  refine wpAnyH_takeAt (i := 21) (v := ?_) rfl (by kernel_rfl) (by kernel_rfl) (by kernel_rfl) (fun _ _ _ h => h) (Or.inl ⟨by rfl, ?_⟩) sx0 ?_
  rotate_left 1
  · intro w' hS; have qk := hS.2.2; clear hS
    go_simp <;> with_reducible rfl
  try simp only [Act.put, List.setIfInBounds_toArray, List.set_cons_zero, List.set_cons_succ]
  refine wpAnyH_takeAt (i := 22) (v := ?_) rfl (by kernel_rfl) (by kernel_rfl) (by kernel_rfl) (fun _ _ _ h => h) (Or.inl ⟨by rfl, ?_⟩) sx0 ?_
  rotate_left 1
  · intro w' hS; have qk := hS.2.2; clear hS
    go_simp <;> with_reducible rfl
  try simp only [Act.put, List.setIfInBounds_toArray, List.set_cons_zero, List.set_cons_succ]
  refine wpAnyH_takeAt (i := 23) (v := ?_) rfl (by kernel_rfl) (by kernel_rfl) (by kernel_rfl) (fun _ _ _ h => h) (Or.inl ⟨by rfl, ?_⟩) sx0 ?_
  rotate_left 1
  · intro w' hS; have qk := hS.2.2; clear hS
    go_simp <;> with_reducible rfl
  try simp only [Act.put, List.setIfInBounds_toArray, List.set_cons_zero, List.set_cons_succ]
  refine wpAnyH_takeAt (i := 24) (v := ?_) rfl (by kernel_rfl) (by kernel_rfl) (by kernel_rfl) (fun _ _ _ h => h) (Or.inl ⟨by rfl, ?_⟩) sx0 ?_
  rotate_left 1
  · intro w' hS; have qk := hS.2.2; clear hS
    go_simp <;> with_reducible rfl
  try simp only [Act.put, List.setIfInBounds_toArray, List.set_cons_zero, List.set_cons_succ]
  refine wpAnyH_ready (rs := [20]) (by kernel_rfl) (by simp) (allReady_at rfl (fun K_ hK => ?_))
  go_simp
  refine (cells_any _ m7).mono ?_
  rintro e w7 ⟨u, rfl, o7, l7⟩
  dsimp only
  have ko7 := own_below ko7' l7
  have lo7 := lo6'.trans (l7.mono lo6'.size)
  have s1 : BoxC w7 w2.heap.size C ∧ BoxC w7 w4.heap.size C ∧ w7.cell? ⟨kb, 0, none⟩ = some kv := ⟨sx0.1.below l7, sx0.2.1.below l7, cell_below l7 sx0.2.2⟩
  refine hK.out _ _ s1 (fun _ => ?_)
  clear hK K_
  try simp only [Act.put, List.setIfInBounds_toArray, List.set_cons_zero, List.set_cons_succ]
  refine wpAnyH_ready (rs := [25]) (by kernel_rfl) (by simp) (allReady_at rfl (fun K_ hK => ?_))
  go_simp
  refine (same_yes w7 o7 ko7 hlen).mono ?_
  rintro e w8 ⟨rfl, n, rfl⟩
  dsimp only
  have lo8 := lo7.trans (drewN_low w7 n _)
  have s2 : BoxC (w7.drewN n) w2.heap.size C ∧ BoxC (w7.drewN n) w4.heap.size C ∧ (w7.drewN n).cell? ⟨kb, 0, none⟩ = some kv := s1
  refine hK.out _ _ s2 (fun _ => ?_)
  clear hK K_
  try simp only [Act.put, List.setIfInBounds_toArray, List.set_cons_zero, List.set_cons_succ]
  refine wpAnyH_takeAt (i := 26) (v := ?_) rfl (by kernel_rfl) (by kernel_rfl) (by kernel_rfl) (fun _ _ _ h => h) (Or.inl ⟨by rfl, ?_⟩) s2 ?_
  rotate_left 1
  · intro w' hS; clear hS
    go_simp <;> with_reducible rfl
  try simp only [Act.put, List.setIfInBounds_toArray, List.set_cons_zero, List.set_cons_succ]
  refine wpAnyH_takeAt (i := 27) (v := ?_) rfl (by kernel_rfl) (by kernel_rfl) (by kernel_rfl) (fun _ _ _ h => h) (Or.inl ⟨by rfl, ?_⟩) s2 ?_
  rotate_left 1
  · intro w' hS; clear hS
    go_simp <;> with_reducible rfl
  try simp only [Act.put, List.setIfInBounds_toArray, List.set_cons_zero, List.set_cons_succ]
  refine wpAnyH_ready (rs := [28]) (by kernel_rfl) (by simp) (allReady_at rfl (fun K_ hK => ?_))
  go_simp
  refine (fixed4_any _).mono ?_
  rintro e w9 ⟨rfl, l9⟩
  dsimp only
  have lo9 := lo8.trans (l9.mono lo8.size)
  have s3 : BoxC w9 w2.heap.size C ∧ BoxC w9 w4.heap.size C ∧ w9.cell? ⟨kb, 0, none⟩ = some kv := ⟨s2.1.below l9, s2.2.1.below l9, cell_below l9 s2.2.2⟩
  refine hK.out _ _ s3 (fun _ => ?_)
  clear hK K_
  try simp only [Act.put, List.setIfInBounds_toArray, List.set_cons_zero, List.set_cons_succ]
  refine wpAnyH_takeAt (i := 29) (v := ?_) rfl (by kernel_rfl) (by kernel_rfl) (by kernel_rfl) (fun _ _ _ h => h) (Or.inl ⟨by rfl, ?_⟩) s3 ?_
  rotate_left 1
  · intro w' hS; clear hS
    go_simp <;> with_reducible rfl
  try simp only [Act.put, List.setIfInBounds_toArray, List.set_cons_zero, List.set_cons_succ]
  refine wpAnyH_takeAt (i := 30) (v := ?_) rfl (by kernel_rfl) (by kernel_rfl) (by kernel_rfl) (fun _ _ _ h => h) (Or.inl ⟨by rfl, ?_⟩) s3 ?_
  rotate_left 1
  · intro w' hS; clear hS
    go_simp <;> with_reducible rfl
  try simp only [Act.put, List.setIfInBounds_toArray, List.set_cons_zero, List.set_cons_succ]
  refine wpAnyH_done (by kernel_rfl) ?_ _
  refine NoPanic.normal ?_
  go_wp2_with fail
  go_ret
  exact ⟨rfl, lo9⟩
end Go.Proofs.YtilphdfobflbiaaGreat
namespace Go.Proofs.YtilphdfobflbiaaGreat.cpuRuns
open Go.ChangeShapes Go.WideShapes Go.ChangeAt Go.RowKit
set_option linter.unusedVariables false

theorem own : ownKnob Tryz.prog.godebug = none := by kernel_rfl

set_option maxRecDepth 100000 in
theorem lifted (os : Os) (started : os.Started) (H : Type) (enc : TypeId × Value → H) :
    ReturnsInHanded {} Tryz.checked os 4 .any (Rows.cpuRunsSpec.pre6 enc Tryz.prog Tryz.f4 Rows.cpuRunsRow.domain false) (Rows.cpuRunsSpec.post enc Tryz.prog Tryz.f4 false true false false) := by
  refine returnsInHanded_of_change (C := Tryz.checked) own started (by kernel_rfl) Tryz.func4
    (ChangeSpec.witness6 (enc := enc) (C := Tryz.checked) false ⟨#[], #[.agg #[.int .u32 0, .int .u32 0, .int .u32 0, .int .u32 0, .int .u32 0, .int .u32 0, .int .u32 0, .int .u32 0, .int .u32 0, .int .u32 0, .int .u32 0, .int .u32 0, .int .u32 0, .int .u32 0, .int .u32 0, .int .u32 0, .int .u32 0, .int .u32 0, .int .u32 0, .int .u32 0, .int .u32 0, .int .u32 0, .int .u32 0, .int .u32 0, .int .u32 0, .int .u32 0, .int .u32 0, .int .u32 0, .int .u32 0, .int .u32 0, .int .u32 0, .int .u32 0, .int .u32 0, .int .u32 0, .int .u32 0, .string ⟨#[]⟩, .string ⟨#[]⟩, .slice none 0 0, .int .i64 0]], []⟩ 8 (by kernel_rfl) (by kernel_rfl) (by kernel_rfl) (by kernel_rfl)) ?_
  intro W base args ds gs before hval0 hW hcnd _
  have hval : ∀ (j : Nat) t v, Tryz.f4.params[j]? = some t → args[j]? = some v → Value.okWide Tryz.prog W .any base t v := hval0
  have hW' := hW
  obtain ⟨p, q, hA0, hV, rfl, hfz, hnd⟩ := hW
  have hA : DataW.TrodAll enc Tryz.prog W 0 (fun _ => true) true Tryz.f4.params.toList args.toList ds p := hA0
  rw [Tryz.params4] at hA hval
  obtain ⟨v0, vs0, d0, ds0, p0, q0, hargs, rfl, rfl, h0, r0⟩ := trodAll_cons hA
  obtain ⟨rfl, rfl, rfl⟩ := trodAll_nil r0
  obtain rfl : args = #[v0] := by cases args; simp_all
  obtain ⟨rfl, rfl⟩ := trodVars_none hV
  have hlt : ∀ x ∈ p0, x.block < W.heap.size := fun x hx => by simpa using hW'.lt x (by simpa using hx)
  have k0 := h0
  have l0 : ∀ x ∈ p0, x.block < W.heap.size := fun x hx => hlt x (by simp [hx])
  obtain ⟨V0, hV0, rfl⟩ := open_world (hval 0 28 v0 rfl rfl) h0
  clear hA0 hval0
  refine (cpuRuns_walk V0 W hV0).mono fun e W' ⟨he, hg⟩ => ?_
  subst he
  exact ⟨_, rfl, _, _, _, [], _, [], hW', trodAll_mk1 (shut_bool Tryz.underlying4 _), (trodAll_cons_mk (Below.trod laidOut4 (by kernel_rfl) (of_decide_eq_true (by kernel_rfl)) k0 hg l0) trodAll_mk0), rfl, hg.frame _, fun h => by cases h⟩

theorem over : Rows.cpuRunsRow.holds Tryz.pinned (OpenSpec.ofChange Rows.cpuRunsSpec) :=
  OpenClaim.holds_of_wide 4 Tryz.f4 rfl rfl rfl rfl rfl rfl rfl ⟨rfl, rfl, rfl, rfl, rfl⟩ rfl rfl rfl rfl rfl (by kernel_rfl) Tryz.func4 (by kernel_rfl)
    (of_decide_eq_true (by kernel_rfl)) (by unfold Func.isWrapper; first | (rw [if_pos (by decide +kernel)]; kernel_rfl) | (rw [if_neg (by decide +kernel)]; exact ⟨rfl, rfl⟩))
    (fun os started H enc _ => lifted os started H enc)

theorem proved : Rows.CpuRunsSaid :=
  over
#print axioms proved
end Go.Proofs.YtilphdfobflbiaaGreat.cpuRuns
