/-
  Contract of the law's fixed: calls whose answers the document fixes.
-/
import Derived.Test.YtegfpbffgnpebaaER
import Derived.Laws.IdiomStrings
import Derived.Laws.MakeOwn
namespace Go.Proofs.Ytegfpbffgnpebaa
open Go.RowKit El Go.Lib
open Classical
set_option linter.unusedSimpArgs false

def segA : Seg := ⟨(BitVec.ofNat 32 4096), [97, 98, 99, 100], 8, 5⟩
def segB : Seg := ⟨(BitVec.ofNat 32 4103), [], 1, 0⟩
def segZ : Seg := ⟨(BitVec.ofNat 32 0), [], 0, 0⟩
theorem one_chk : chk oneP.segs = 0 := by
  refine chk_ok (by decide) (fun g hg => ?_) (fun ⟨i, j, g, h, hij, hi, hj, _⟩ => ?_)
  · simp [oneP] at hg; subst hg
    refine ⟨by decide, by decide, by decide, by decide, by decide, by decide⟩
  · have := (List.getElem?_eq_some_iff.1 hi).1
    have : i < 1 := this
    omega
theorem two_chk : chk [segA, segB] = 63 := by
  refine chk_meet (by decide) (fun g hg => ?_) ⟨1, 0, segB, segA, by decide, rfl, rfl, ?_⟩
  · simp at hg
    rcases hg with rfl | rfl <;> refine ⟨by decide, by decide, by decide, by decide, by decide, by decide⟩
  · unfold Seg.apart segA segB; decide
theorem zero_chk : chk [segZ] = 62 := chk_form (by decide) (List.mem_singleton.2 rfl) (fun h => absurd h.1 (by decide))
theorem one_len : (El.wr oneP).length = 88 := by rw [wr_len]; decide
theorem one_back : prsE (El.wr oneP) = 0 ∧ prsV (El.wr oneP) = oneP := back_wr one_chk (by rw [one_len]; omega)
theorem nil_prs : prsE [] = 60 := by unfold prsE; rw [if_pos (by decide)]
theorem zeros_prs : prsE (List.replicate 52 0) = 61 := by
  unfold prsE
  rw [if_neg (by simp), if_pos]
  intro h
  have := h.1
  simp [El.mark] at this
theorem infoBy : (Try.prog.info? 5).map (fun i => (i.zero, i.size, i.bytes)) = some (some (.int .u8 0), 1, 1) := by kernel_rfl
theorem make52 : ∃ M : Array Value, (∀ W : World, (Instr.makeSlice 40 (.int .i64 52) (.int .i64 52)).run Try.prog W = .ok (.slice (some ⟨W.heap.size, 0, none⟩) 52 52) (W.alloc (.cells M 5))) ∧
    (∀ W : World, (convert 40 9 (.slice (some ⟨W.heap.size, 0, none⟩) 52 52)).run Try.prog (W.alloc (.cells M 5)) = .ok (.string ⟨(List.replicate 52 (0 : UInt8)).toArray⟩) (W.alloc (.cells M 5))) := by
  obtain ⟨i0, hi, hz0, hz1, hz2⟩ := info_partsE infoBy
  refine ⟨madeCells (Value.int .u8 0).cells (52 * i0.size), fun W => ?_, fun W => ?_⟩
  · have h := run_make (P := Try.prog) W 40 5 i0 (.int .u8 0) Try.underlying40 hi hz0 .i64 .i64 52 52 (by omega) (by omega) (by rw [hz2]; omega) (by omega)
    simpa using h
  · have e : (madeCells (Value.int .u8 0).cells (52 * i0.size)).toList = List.replicate 52 (.int .u8 0) := by
      rw [hz1]; exact toList_madeCells_one _ _
    have := run_convert_bytes_back (P := Try.prog) (W.alloc (.cells (madeCells (Value.int .u8 0).cells (52 * i0.size)) 5)) 40 9 5 ⟨W.heap.size, 0, none⟩ 52 (List.replicate 52 0) Try.underlying40 Try.underlying5 Try.underlying9 (fun j hj => by
      rw [List.length_replicate] at hj
      have hc : (W.alloc (.cells (madeCells (Value.int .u8 0).cells (52 * i0.size)) 5)).cell? ⟨W.heap.size, j, none⟩ = some (.int .u8 0) := by
        rw [Lib.cell_of_heap (heap_alloc_new W _), ← Array.getElem?_toList, e, List.getElem?_replicate, if_pos hj]
      have ha : (⟨W.heap.size, 0, none⟩ : Addr).add j = ⟨W.heap.size, j, none⟩ := by unfold Addr.add; split <;> simp_all
      rw [ha, hc, List.getElem_replicate]; rfl)
    rwa [List.length_replicate] at this
theorem own_set {W : World} {B : Nat} {t t' : TypeId} {k : Nat} {v : Value} {n : Nat} {xs : List Value} (h : W.ownsRow B t k v n xs) {b o : Nat} {cs : Array Value} {fr : Nat × Nat} (hb : W.heap[b]? = some (.cells cs t' fr)) (ht : t ≠ t') (u : Value) : (W.setCell ⟨b, o, none⟩ u).ownsRow B t k v n xs := by
  refine ⟨h.1, ?_⟩
  rcases h.2 with h0 | ⟨g, cap, cur, h1, h2, h3, h4⟩
  · exact .inl h0
  · exact .inr ⟨g, cap, cur, h1, h2, by rw [set_other _ _ _ _ (fun e => by subst e; rw [hb] at h3; injection h3 with h3; injection h3 with _ h3; exact ht h3.symm)]; exact h3, h4⟩
theorem fitsAB : ∀ g ∈ [segA, segB], Fits g := fun g hg => by
  simp at hg
  rcases hg with rfl | rfl <;> exact ⟨by decide, by decide⟩
theorem fitsZ : ∀ g ∈ [segZ], Fits g := fun g hg => by
  simp at hg
  subst hg; exact ⟨by decide, by decide⟩
theorem slsZ (W : World) : SlS (W.alloc (.cells #[.int .u32 0, .string ⟨#[]⟩, .int .i64 0, .int .i64 0] 36)) (.slice (some ⟨W.heap.size, 0, none⟩) 1 1) [segZ] := by
  refine .inr ⟨W.heap.size, 0, 1, rfl, Nat.le_refl _, by simp, fun j hj => ?_⟩
  rw [Nat.zero_add, Lib.cell_of_heap (heap_alloc_new W _)]
  have hj4 : j < 4 := hj
  match j, hj4 with
  | 0, _ => rfl
  | 1, _ => rfl
  | 2, _ => rfl
  | 3, _ => rfl
/-- While fixed makes its answer: the parsed program, the one of two segments. -/
structure FixW (w : World) (b3 b9 : Nat) (v3 v9 : Value) (W : World) : Prop where
  x3 : W.heap[b3]? = some (.cells #[.int .u32 (oneP.entry.toNat : Int), .int .u32 (oneP.flags.toNat : Int), v3] 25 (0, 0))
  s3 : SlS W v3 oneP.segs
  x9 : W.heap[b9]? = some (.cells #[.int .u32 (oneP.entry.toNat : Int), .int .u32 (oneP.flags.toNat : Int), v9] 25 (0, 0))
  s9 : SlS W v9 [segA, segB]
  low : Below w.heap.size w W
theorem FixW.below {w W W' : World} {b3 b9 : Nat} {v3 v9 : Value} (h : FixW w b3 b9 v3 v9 W) (hb : Below W.heap.size W W') : FixW w b3 b9 v3 v9 W' :=
  ⟨keptN hb h.x3, h.s3.below hb, keptN hb h.x9, h.s9.below hb, h.low.trans (hb.mono h.low.size)⟩
theorem FixW.drew {w W : World} {b3 b9 : Nat} {v3 v9 : Value} (h : FixW w b3 b9 v3 v9 W) : FixW w b3 b9 v3 v9 W.drew := h.below (Below.refl _ W).drew
structure T3 (w : World) (b3 : Nat) (v3 : Value) (W : World) : Prop where
  x3 : W.heap[b3]? = some (.cells #[.int .u32 (oneP.entry.toNat : Int), .int .u32 (oneP.flags.toNat : Int), v3] 25 (0, 0))
  s3 : SlS W v3 oneP.segs
  low : Below w.heap.size w W
theorem T3.below {w W W' : World} {b3 : Nat} {v3 : Value} (h : T3 w b3 v3 W) (hb : Below W.heap.size W W') : T3 w b3 v3 W' :=
  ⟨keptN hb h.x3, h.s3.below hb, h.low.trans (hb.mono h.low.size)⟩
theorem T3.alloc {w W : World} {b3 : Nat} {v3 : Value} (h : T3 w b3 v3 W) (o : Obj) : T3 w b3 v3 (W.alloc o) := h.below ((Below.refl _ W).alloc (Nat.le_refl _) o)
theorem box_grown {W W' : World} {B : Nat} {k : Nat} {v : Value} {n : Nat} {xs : List Value} {E F : Value} {o : Obj} (h : W.ownsRow B 36 k v n xs) (hg : ((W.alloc (.cells #[E, F, v] 25)).alloc o).grownBy W' v.ownBlock) : W'.heap[W.heap.size]? = some (.cells #[E, F, v] 25 (0, 0)) := by
  rw [hg.block _ (by simp; omega) (fun e => by have := (h.lt _ e.symm).2; omega), Below.heap_alloc _ _ _ (by simp)]
  exact heap_alloc_new W _
set_option maxRecDepth 100000 in
set_option maxHeartbeats 8000000 in
theorem fixed6_any (w : World) : Calls Try.prog 12 #[] w fun e w' => e = .returned (.bool true) ∧ Below w.heap.size w w' := by
  obtain ⟨i0, hi, hz0, hz1, hz2⟩ := info_partsE infoS
  obtain ⟨M, hmk, hcv⟩ := make52
  obtain ⟨zs, hzs⟩ : ∃ z, z = List.replicate 52 (0 : UInt8) := ⟨_, rfl⟩
  rw [← hzs] at hcv
  have hcv2 : ∀ (W : World) (ob : Obj), (convert 40 9 (.slice (some ⟨W.heap.size + 1, 0, none⟩) 52 52)).run Try.prog ((W.alloc ob).alloc (.cells M 5)) = .ok (.string ⟨zs.toArray⟩) ((W.alloc ob).alloc (.cells M 5)) := fun W ob => by
    have := hcv (W.alloc ob)
    rw [show (W.alloc ob).heap.size = W.heap.size + 1 by simp] at this
    exact this
  clear hcv
  have hzl : zs.length ≤ 281474976710656 := by rw [hzs]; simp
  have HZ := hideE (show prsE zs = 61 by rw [hzs]; exact zeros_prs)
  clear hzs
  go_enter Try.func12, Try.ntmps12
  go_wp2_with fail
  refine (one_any _).mono ?_
  rintro e w1 ⟨v1, rfl, hown1, hb1⟩
  have HS1 := hideE (sls_of_owns hown1)
  have HW := hideE (write_any oneP v1 (fun g hg => by simp [oneP] at hg; subst hg; exact ⟨by decide, by decide⟩) (fun _ => by decide) w1 HS1.out)
  have HB1 := hideE hb1
  clear hown1 hb1
  rw [show wrV oneP = El.wr oneP by unfold wrV; rw [if_pos one_chk], one_chk] at HW
  obtain ⟨s, hs⟩ : ∃ s, s = El.wr oneP := ⟨_, rfl⟩
  have hsl : s.length = 88 := by rw [hs, one_len]
  have HP := hideE one_back
  rw [← hs] at HW HP
  have hsb : s.length ≤ 281474976710656 := by omega
  clear hs
  unfold prgV
  unfold prgV at HW
  go_wp2_with fail
  refine HW.out.mono ?_
  rintro e w2 ⟨rfl, hb2⟩
  have HB2 := hideE (HB1.out.trans (hb2.mono HB1.out.size))
  clear hb2
  go_wp2_with fail
  refine (parse_any s hsb _).mono ?_
  rintro e w3 ⟨v3, he, hS3, hb3⟩
  rw [HP.out.2] at hS3
  obtain ⟨p3, c3, rfl, _⟩ := hS3.len
  rw [HP.out.1, HP.out.2] at he
  unfold prgV at he
  subst he
  have t3 : T3 w w3.heap.size (.slice p3 oneP.segs.length c3) (w3.alloc (.cells #[.int .u32 (oneP.entry.toNat : Int), .int .u32 (oneP.flags.toNat : Int), .slice p3 oneP.segs.length c3] 25)) := ⟨heap_alloc_new w3 _, hS3.below ((Below.refl _ w3).alloc (Nat.le_refl _) _), (HB2.out.trans (hb3.mono HB2.out.size)).alloc (HB2.out.trans (hb3.mono HB2.out.size)).size _⟩
  have HT3 := hideE t3
  clear hb3 hS3 t3
  go_wp2_with fail
  refine (parse_any [] (by simp) _).mono ?_
  rintro e w4 ⟨v4, he, hS4, hb4⟩
  obtain ⟨p4, c4, rfl, _⟩ := hS4.len
  rw [nil_prs, prs_bad (by rw [nil_prs]; decide)] at he
  unfold prgV at he
  subst he
  have HT4 := hideE (HT3.out.below hb4)
  clear hS4 hb4
  go_wp2_with fail
  refine (parse_any zs hzl _).mono ?_
  rintro e w5 ⟨v5, he, hS5, hb5⟩
  obtain ⟨p5, c5, rfl, _⟩ := hS5.len
  rw [HZ.out, prs_bad (by rw [HZ.out]; decide)] at he
  unfold prgV at he
  subst he
  have HT5 := hideE (((HT4.out.alloc _).alloc _).below hb5)
  clear hS5 hb5
  go_wp2_with fail
  refine (one_any _).mono ?_
  rintro e w6 ⟨v6, rfl, hown6, hb6⟩
  obtain ⟨p6, n6, c6, rfl⟩ := own_slice hown6
  have K6 := hideE hb6
  have H6 := hideE hown6
  clear hb6
  unfold prgV
  go_wp2_with (first
    | (at_builtin; refine wpList_append_own _ rfl _ _ 23 rfl _ 36 i0 (.agg #[.int .u32 0, .string ⟨#[]⟩, .int .i64 0, .int .i64 0]) 4 40 Try.underlying23 hi hz0 hz1 hz2 rfl (by decide) _ _ _ rfl ((hown6.alloc _).alloc _) ⟨w6.heap.size + 1, 0, none⟩ 1 1 [.int .u32 4103, .string ⟨#[]⟩, .int .i64 1, .int .i64 0] rfl rfl (cell_four_at _ _ (by simp) _ _ _ _ _) (by simp [Value.oneCell']) (by show 1 + 1 ≤ maxLen; unfold maxLen; omega) (by show (1 + 1) * 40 ≤ _; omega) (by have := K6.out.size; simp at this ⊢; omega) ?_; intro v9 w9 hown9 hgrow hnil9; obtain ⟨p9, n9, c9, rfl⟩ := own_slice hown9; obtain ⟨⟨z0, z1, z2⟩, g0, g1, g2⟩ := three (box_grown H6.out hgrow)))
  have hL : Below w5.heap.size w5 w9 := (((((Below.refl _ w5).alloc (Nat.le_refl _) _).trans (K6.out.mono (by simp))).alloc (by have := K6.out.size; simp at this; omega) _).alloc (by have := K6.out.size; simp at this ⊢; omega) _).grown hgrow (by have := K6.out.size; simp at this ⊢; omega) (fun k e => by have := (H6.out.lt k e).1; simp at this; omega)
  have hF : FixW w w3.heap.size w6.heap.size (.slice p3 oneP.segs.length c3) (.slice p9 n9 c9) (w9.setCell ⟨w6.heap.size, 2, none⟩ (.slice p9 n9 c9)) := by
    have hbx := box_grown H6.out hgrow
    have t9 := HT5.out.below (hL.setCell (p := ⟨w6.heap.size, 2, none⟩) (by have := K6.out.size; simp at this; show w5.heap.size ≤ w6.heap.size; omega) (.slice p9 n9 c9))
    exact ⟨t9.x3, t9.s3, by simp [World.setCell, Array.getElem?_modify, hbx], sls_of_owns (own_set hown9 hbx (by decide) _), t9.low⟩
  have hq88 : ((s.length : Int) == 88) = true := by rw [hsl]; rfl
  clear z0 z1 z2 g0 g1 g2 hL hown9 hgrow hnil9 hown6 hmk hcv2 hi hz0 hz1 hz2
  generalize World.setCell w9 _ _ = wF at hF ⊢
  obtain ⟨b3, hb3⟩ : ∃ b, b = w3.heap.size := ⟨_, rfl⟩
  obtain ⟨b9, hb9⟩ : ∃ b, b = w6.heap.size := ⟨_, rfl⟩
  rw [← hb3, ← hb9] at hF
  rw [← hb3, ← hb9]
  clear hb3 hb9 hsl hsb
  refine wp_region_noPanic ?_
  refine wp_region_held_drew (S := FixW w b3 b9 (.slice p3 oneP.segs.length c3) (.slice p9 n9 c9)) (by kernel_rfl) hF.drew (fun h0 => ?_)
  refine wpAnyH_takeAt (i := 0) (v := ?_) rfl (by kernel_rfl) (by kernel_rfl) (by kernel_rfl) (fun _ _ _ h => h) (Or.inl ⟨by rfl, ?_⟩) h0 ?_
  rotate_left 1
  · intro w' hS; clear hS
    go_simp <;> with_reducible rfl
  try simp only [Act.put, List.setIfInBounds_toArray, List.set_cons_zero, List.set_cons_succ]
  refine wpAnyH_takeAt (i := 1) (v := ?_) rfl (by kernel_rfl) (by kernel_rfl) (by kernel_rfl) (fun _ _ _ h => h) (Or.inl ⟨by rfl, ?_⟩) h0 ?_
  rotate_left 1
  · intro w' hS; clear hS
    go_simp <;> with_reducible rfl
  try simp only [Act.put, List.setIfInBounds_toArray, List.set_cons_zero, List.set_cons_succ]
  refine wpAnyH_takeAt (i := 2) (v := ?_) rfl (by kernel_rfl) (by kernel_rfl) (by kernel_rfl) (fun _ _ _ h => h) (Or.inl ⟨by rfl, ?_⟩) h0 ?_
  rotate_left 1
  · intro w' hS; clear hS
    go_simp <;> with_reducible rfl
  try simp only [Act.put, List.setIfInBounds_toArray, List.set_cons_zero, List.set_cons_succ]
  refine wpAnyH_takeAt (i := 3) (v := ?_) rfl (by kernel_rfl) (by kernel_rfl) (by kernel_rfl) (fun _ _ _ h => h) (Or.inl ⟨by rfl, ?_⟩) h0 ?_
  rotate_left 1
  · intro w' hS; clear hS
    go_simp <;> with_reducible rfl
  try simp only [Act.put, List.setIfInBounds_toArray, List.set_cons_zero, List.set_cons_succ]
  refine wpAnyH_takeAt (i := 4) (v := ?_) rfl (by kernel_rfl) (by kernel_rfl) (by kernel_rfl) (fun _ _ _ h => h) (Or.inl ⟨by rfl, ?_⟩) h0 ?_
  rotate_left 1
  · intro w' hS; clear hS
    go_simp <;> with_reducible rfl
  try simp only [Act.put, List.setIfInBounds_toArray, List.set_cons_zero, List.set_cons_succ]
  refine wpAnyH_takeAt (i := 5) (v := ?_) rfl (by kernel_rfl) (by kernel_rfl) (by kernel_rfl) (fun _ _ _ h => h) (Or.inl ⟨by rfl, ?_⟩) h0 ?_
  rotate_left 1
  · intro w' hS; clear hS
    go_simp <;> with_reducible rfl
  try simp only [Act.put, List.setIfInBounds_toArray, List.set_cons_zero, List.set_cons_succ]
  refine wpAnyH_takeAt (i := 6) (v := ?_) rfl (by kernel_rfl) (by kernel_rfl) (by kernel_rfl) (fun _ _ _ h => h) (Or.inl ⟨by rfl, ?_⟩) h0 ?_
  rotate_left 1
  · intro w' hS; clear hS
    go_simp <;> with_reducible rfl
  try simp only [Act.put, List.setIfInBounds_toArray, List.set_cons_zero, List.set_cons_succ]
  refine wpAnyH_takeAt (i := 7) (v := ?_) rfl (by kernel_rfl) (by kernel_rfl) (by kernel_rfl) (fun _ _ _ h => h) (Or.inl ⟨by rfl, ?_⟩) h0 ?_
  rotate_left 1
  · intro w' hS; clear hS
    go_simp <;> with_reducible rfl
  try simp only [Act.put, List.setIfInBounds_toArray, List.set_cons_zero, List.set_cons_succ]
  refine wpAnyH_takeAt (i := 8) (v := ?_) rfl (by kernel_rfl) (by kernel_rfl) (by kernel_rfl) (fun _ _ _ h => h) (Or.inl ⟨by rfl, ?_⟩) h0 ?_
  rotate_left 1
  · intro w' hS; have y0 := (three hS.x3).1.1; have y1 := (three hS.x3).1.2.1; have y2 := (three hS.x3).1.2.2; have y3 := (three hS.x9).1.1; have y4 := (three hS.x9).1.2.1; have y5 := (three hS.x9).1.2.2; clear hS
    go_simp <;> with_reducible rfl
  try simp only [Act.put, List.setIfInBounds_toArray, List.set_cons_zero, List.set_cons_succ]
  refine wpAnyH_ready (rs := [9]) (by kernel_rfl) (by simp) (allReady_at rfl (fun K hK => ?_))
  go_simp
  refine (one_any _).mono ?_
  rintro e u1 ⟨vO, rfl, ho, hb1⟩
  dsimp only
  have hSO := sls_of_owns ho
  have h1 : FixW w b3 b9 (.slice p3 oneP.segs.length c3) (.slice p9 n9 c9) u1 := h0.below hb1
  refine hK.out _ _ h1 (fun _ => ?_)
  clear hK K
  try simp only [Act.put, List.setIfInBounds_toArray, List.set_cons_zero, List.set_cons_succ]
  refine wpAnyH_ready (rs := [10]) (by kernel_rfl) (by simp) (allReady_at rfl (fun K hK => ?_))
  go_simp
  refine (same_any oneP oneP (.slice p3 oneP.segs.length c3) vO (by decide) _ h1.s3 hSO).mono ?_
  rintro e u2 ⟨he, hb2⟩
  rw [decide_eq_true rfl] at he
  subst he
  dsimp only
  have h2 : FixW w b3 b9 (.slice p3 oneP.segs.length c3) (.slice p9 n9 c9) u2 := h1.below hb2
  refine hK.out _ _ h2 (fun _ => ?_)
  clear hK K
  try simp only [Act.put, List.setIfInBounds_toArray, List.set_cons_zero, List.set_cons_succ]
  refine wpAnyH_takeAt (i := 11) (v := ?_) rfl (by kernel_rfl) (by kernel_rfl) (by kernel_rfl) (fun _ _ _ h => h) (Or.inl ⟨by rfl, ?_⟩) h2 ?_
  rotate_left 1
  · intro w' hS; clear hS
    go_simp <;> with_reducible rfl
  try simp only [Act.put, List.setIfInBounds_toArray, List.set_cons_zero, List.set_cons_succ]
  refine wpAnyH_takeAt (i := 12) (v := ?_) rfl (by kernel_rfl) (by kernel_rfl) (by kernel_rfl) (fun _ _ _ h => h) (Or.inl ⟨by rfl, ?_⟩) h2 ?_
  rotate_left 1
  · intro w' hS; clear hS
    go_simp <;> with_reducible rfl
  try simp only [Act.put, List.setIfInBounds_toArray, List.set_cons_zero, List.set_cons_succ]
  refine wpAnyH_takeAt (i := 13) (v := ?_) rfl (by kernel_rfl) (by kernel_rfl) (by kernel_rfl) (fun _ _ _ h => h) (Or.inl ⟨by rfl, ?_⟩) h2 ?_
  rotate_left 1
  · intro w' hS; clear hS
    go_simp <;> with_reducible rfl
  try simp only [Act.put, List.setIfInBounds_toArray, List.set_cons_zero, List.set_cons_succ]
  refine wpAnyH_takeAt (i := 14) (v := ?_) rfl (by kernel_rfl) (by kernel_rfl) (by kernel_rfl) (fun _ _ _ h => h) (Or.inl ⟨by rfl, ?_⟩) h2 ?_
  rotate_left 1
  · intro w' hS; clear hS
    go_simp <;> with_reducible rfl
  try simp only [Act.put, List.setIfInBounds_toArray, List.set_cons_zero, List.set_cons_succ]
  refine wpAnyH_takeAt (i := 15) (v := ?_) rfl (by kernel_rfl) (by kernel_rfl) (by kernel_rfl) (fun _ _ _ h => h) (Or.inl ⟨by rfl, ?_⟩) h2 ?_
  rotate_left 1
  · intro w' hS; clear hS
    go_simp <;> with_reducible rfl
  try simp only [Act.put, List.setIfInBounds_toArray, List.set_cons_zero, List.set_cons_succ]
  refine wpAnyH_takeAt (i := 16) (v := ?_) rfl (by kernel_rfl) (by kernel_rfl) (by kernel_rfl) (fun _ _ _ h => h) (Or.inl ⟨by rfl, ?_⟩) h2 ?_
  rotate_left 1
  · intro w' hS; clear hS
    go_simp <;> with_reducible rfl
  try simp only [Act.put, List.setIfInBounds_toArray, List.set_cons_zero, List.set_cons_succ]
  refine wpAnyH_takeAt (i := 17) (v := ?_) rfl (by kernel_rfl) (by kernel_rfl) (by kernel_rfl) (fun _ _ _ h => h) (Or.inl ⟨by rfl, ?_⟩) h2 ?_
  rotate_left 1
  · intro w' hS; clear hS
    go_simp <;> with_reducible rfl
  try simp only [Act.put, List.setIfInBounds_toArray, List.set_cons_zero, List.set_cons_succ]
  refine wpAnyH_takeAt (i := 18) (v := ?_) rfl (by kernel_rfl) (by kernel_rfl) (by kernel_rfl) (fun _ _ _ h => h) (Or.inl ⟨by rfl, ?_⟩) h2 ?_
  rotate_left 1
  · intro w' hS; clear hS
    go_simp <;> with_reducible rfl
  try simp only [Act.put, List.setIfInBounds_toArray, List.set_cons_zero, List.set_cons_succ]
  refine wpAnyH_takeAt (i := 19) (v := ?_) rfl (by kernel_rfl) (by kernel_rfl) (by kernel_rfl) (fun _ _ _ h => h) (Or.inl ⟨by rfl, ?_⟩) h2 ?_
  rotate_left 1
  · intro w' hS; clear hS
    go_simp <;> with_reducible rfl
  try simp only [Act.put, List.setIfInBounds_toArray, List.set_cons_zero, List.set_cons_succ]
  refine wpAnyH_takeAt (i := 20) (v := ?_) rfl (by kernel_rfl) (by kernel_rfl) (by kernel_rfl) (fun _ _ _ h => h) (Or.inl ⟨by rfl, ?_⟩) h2 ?_
  rotate_left 1
  · intro w' hS; clear hS
    go_simp <;> with_reducible rfl
  try simp only [Act.put, List.setIfInBounds_toArray, List.set_cons_zero, List.set_cons_succ]
  refine wpAnyH_takeAt (i := 21) (v := ?_) rfl (by kernel_rfl) (by kernel_rfl) (by kernel_rfl) (fun _ _ _ h => h) (Or.inl ⟨by rfl, ?_⟩) h2 ?_
  rotate_left 1
  · intro w' hS; clear hS
    go_simp <;> with_reducible rfl
  try simp only [Act.put, List.setIfInBounds_toArray, List.set_cons_zero, List.set_cons_succ]
  refine wpAnyH_takeAt (i := 22) (v := ?_) rfl (by kernel_rfl) (by kernel_rfl) (by kernel_rfl) (fun _ _ _ h => h) (Or.inl ⟨by rfl, ?_⟩) h2 ?_
  rotate_left 1
  · intro w' hS; clear hS
    go_simp <;> with_reducible rfl
  try simp only [Act.put, List.setIfInBounds_toArray, List.set_cons_zero, List.set_cons_succ]
  refine wpAnyH_takeAt (i := 23) (v := ?_) rfl (by kernel_rfl) (by kernel_rfl) (by kernel_rfl) (fun _ _ _ h => h) (Or.inl ⟨by rfl, ?_⟩) h2 ?_
  rotate_left 1
  · intro w' hS; clear hS
    go_simp <;> with_reducible rfl
  try simp only [Act.put, List.setIfInBounds_toArray, List.set_cons_zero, List.set_cons_succ]
  refine wpAnyH_takeAt (i := 24) (v := ?_) rfl (by kernel_rfl) (by kernel_rfl) (by kernel_rfl) (fun _ _ _ h => h) (Or.inl ⟨by rfl, ?_⟩) h2 ?_
  rotate_left 1
  · intro w' hS; clear hS
    go_simp <;> with_reducible rfl
  try simp only [Act.put, List.setIfInBounds_toArray, List.set_cons_zero, List.set_cons_succ]
  refine wpAnyH_takeAt (i := 25) (v := ?_) rfl (by kernel_rfl) (by kernel_rfl) (by kernel_rfl) (fun _ _ _ h => h) (Or.inl ⟨by rfl, ?_⟩) h2 ?_
  rotate_left 1
  · intro w' hS; have y0 := (three hS.x3).1.1; have y1 := (three hS.x3).1.2.1; have y2 := (three hS.x3).1.2.2; have y3 := (three hS.x9).1.1; have y4 := (three hS.x9).1.2.1; have y5 := (three hS.x9).1.2.2; clear hS
    go_simp <;> with_reducible rfl
  try simp only [Act.put, List.setIfInBounds_toArray, List.set_cons_zero, List.set_cons_succ]
  refine wpAnyH_ready (rs := [26]) (by kernel_rfl) (by simp) (allReady_at rfl (fun K hK => ?_))
  go_simp
  refine (check_any ⟨oneP.entry, oneP.flags, [segA, segB]⟩ (.slice p9 n9 c9) fitsAB _ h2.s9).mono ?_
  rintro e u3 ⟨he, hb3⟩
  rw [two_chk] at he
  subst he
  dsimp only
  have h3 : FixW w b3 b9 (.slice p3 oneP.segs.length c3) (.slice p9 n9 c9) u3 := h2.below hb3
  refine hK.out _ _ h3 (fun _ => ?_)
  clear hK K
  try simp only [Act.put, List.setIfInBounds_toArray, List.set_cons_zero, List.set_cons_succ]
  refine wpAnyH_takeAt (i := 27) (v := ?_) rfl (by kernel_rfl) (by kernel_rfl) (by kernel_rfl) (fun _ _ _ h => h) (Or.inl ⟨by rfl, ?_⟩) h3 ?_
  rotate_left 1
  · intro w' hS; clear hS
    go_simp <;> with_reducible rfl
  try simp only [Act.put, List.setIfInBounds_toArray, List.set_cons_zero, List.set_cons_succ]
  refine wpAnyH_takeAt (i := 28) (v := ?_) rfl (by kernel_rfl) (by kernel_rfl) (by kernel_rfl) (fun _ _ _ h => h) (Or.inl ⟨by rfl, ?_⟩) h3 ?_
  rotate_left 1
  · intro w' hS; clear hS
    go_simp <;> with_reducible rfl
  try simp only [Act.put, List.setIfInBounds_toArray, List.set_cons_zero, List.set_cons_succ]
  refine wpAnyH_takeAt (i := 29) (v := ?_) rfl (by kernel_rfl) (by kernel_rfl) (by kernel_rfl) (fun _ _ _ h => h) (Or.inl ⟨by rfl, ?_⟩) h3 ?_
  rotate_left 1
  · intro w' hS; clear hS
    go_simp <;> with_reducible rfl
  try simp only [Act.put, List.setIfInBounds_toArray, List.set_cons_zero, List.set_cons_succ]
  refine wpAnyH_takeAt (i := 30) (v := ?_) rfl (by kernel_rfl) (by kernel_rfl) (by kernel_rfl) (fun _ _ _ h => h) (Or.inl ⟨by rfl, ?_⟩) h3 ?_
  rotate_left 1
  · intro w' hS; clear hS
    go_simp <;> with_reducible rfl
  try simp only [Act.put, List.setIfInBounds_toArray, List.set_cons_zero, List.set_cons_succ]
  refine wpAnyH_ready (rs := [31]) (by kernel_rfl) (by simp) (allReady_at rfl (fun K hK => ?_))
  go_simp
  have h4 : FixW w b3 b9 (.slice p3 oneP.segs.length c3) (.slice p9 n9 c9) _ := h3.below ((Below.refl _ u3).alloc (Nat.le_refl _) (.cells #[.int .u32 0, .string ⟨#[]⟩, .int .i64 0, .int .i64 0] 36))
  refine hK.out _ _ h4 (fun _ => ?_)
  clear hK K
  try simp only [Act.put, List.setIfInBounds_toArray, List.set_cons_zero, List.set_cons_succ]
  refine wpAnyH_takeAt (i := 32) (v := ?_) rfl (by kernel_rfl) (by kernel_rfl) (by kernel_rfl) (fun _ _ _ h => h) (Or.inl ⟨by rfl, ?_⟩) h4 ?_
  rotate_left 1
  · intro w' hS; clear hS
    go_simp <;> with_reducible rfl
  try simp only [Act.put, List.setIfInBounds_toArray, List.set_cons_zero, List.set_cons_succ]
  refine wpAnyH_ready (rs := [33]) (by kernel_rfl) (by simp) (allReady_at rfl (fun K hK => ?_))
  go_simp
  refine (check_any ⟨(BitVec.ofNat 32 0), (BitVec.ofNat 32 0), [segZ]⟩ (.slice (some ⟨u3.heap.size, 0, none⟩) 1 1) fitsZ _ (slsZ u3)).mono ?_
  rintro e u5 ⟨he, hb5⟩
  rw [zero_chk] at he
  subst he
  dsimp only
  have h5 : FixW w b3 b9 (.slice p3 oneP.segs.length c3) (.slice p9 n9 c9) u5 := h4.below hb5
  refine hK.out _ _ h5 (fun _ => ?_)
  clear hK K
  try simp only [Act.put, List.setIfInBounds_toArray, List.set_cons_zero, List.set_cons_succ]
  refine wpAnyH_takeAt (i := 34) (v := ?_) rfl (by kernel_rfl) (by kernel_rfl) (by kernel_rfl) (fun _ _ _ h => h) (Or.inl ⟨by rfl, ?_⟩) h5 ?_
  rotate_left 1
  · intro w' hS; clear hS
    go_simp <;> with_reducible rfl
  try simp only [Act.put, List.setIfInBounds_toArray, List.set_cons_zero, List.set_cons_succ]
  refine wpAnyH_takeAt (i := 35) (v := ?_) rfl (by kernel_rfl) (by kernel_rfl) (by kernel_rfl) (fun _ _ _ h => h) (Or.inl ⟨by rfl, ?_⟩) h5 ?_
  rotate_left 1
  · intro w' hS; clear hS
    go_simp <;> with_reducible rfl
  try simp only [Act.put, List.setIfInBounds_toArray, List.set_cons_zero, List.set_cons_succ]
  refine wpAnyH_takeAt (i := 36) (v := ?_) rfl (by kernel_rfl) (by kernel_rfl) (by kernel_rfl) (fun _ _ _ h => h) (Or.inl ⟨by rfl, ?_⟩) h5 ?_
  rotate_left 1
  · intro w' hS; clear hS
    go_simp <;> with_reducible rfl
  try simp only [Act.put, List.setIfInBounds_toArray, List.set_cons_zero, List.set_cons_succ]
  refine wpAnyH_done (by kernel_rfl) ?_ _
  refine NoPanic.normal ?_
  go_wp2_with fail
  go_ret
  exact ⟨rfl, h5.low⟩
end Go.Proofs.Ytegfpbffgnpebaa
