/-
  The walk of ImageLoads.
-/
import Derived.Test.YtkfomhllaogplaaGS
import Derived.Test.YtkfomhllaogplaaGP
import Derived.Deep.CutRange
namespace Go.Proofs.Ytkfomhllaogplaa
open Go.RowKit El Go.Lib
open Classical
set_option linter.unusedSimpArgs false
set_option linter.unusedVariables false

structure Lo (w W : World) : Prop where
  low : Below w.heap.size w W
theorem Lo.below {w W W' : World} (h : Lo w W) (hb : Below W.heap.size W W') : Lo w W' := ⟨h.low.trans (hb.mono h.low.size)⟩
theorem Lo.drew {w W : World} (h : Lo w W) : Lo w W.drew := h.below (Below.refl _ W).drew
structure LoK (w : World) (kb : Nat) (rv : Value) (W : World) : Prop where
  low : Below w.heap.size w W
  kb : W.heap[kb]? = some (.cells #[rv] 54)
theorem LoK.below {w W W' : World} {kb : Nat} {rv : Value} (h : LoK w kb rv W) (hb : Below W.heap.size W W') : LoK w kb rv W' := ⟨h.low.trans (hb.mono h.low.size), keptN hb h.kb⟩
theorem LoK.drew {w W : World} {kb : Nat} {rv : Value} (h : LoK w kb rv W) : LoK w kb rv W.drew := h.below (Below.refl _ W).drew
set_option maxRecDepth 100000 in
set_option maxHeartbeats 8000000 in
theorem imageLoads_walk (x : Prg) (u0 : Value) (w : World) (hS : SlS w u0 x.segs) (hF : ∀ g ∈ x.segs, Fits g) :
    Calls Try.prog 5 #[prgV x u0] w fun e w' => e = .returned (.bool true) ∧ Below w.heap.size w w' := by
  have b0 := (Below.refl _ w).alloc (Nat.le_refl _) (.cells #[.int .u32 (x.entry.toNat : Int), .int .u32 (x.flags.toNat : Int), u0] 25)
  have HBd := hideE (bound_any x u0 _ (hS.below b0))
  have hx0 := heap_alloc_new w (.cells #[.int .u32 (x.entry.toNat : Int), .int .u32 (x.flags.toNat : Int), u0] 25)
  have HX0 := hideE hx0
  have HB0 := hideE b0
  obtain ⟨X, hX⟩ : ∃ X, X = cutP x := ⟨_, rfl⟩
  have hXf := cut_fits hF
  have hXd := cut_small x
  have hX1 := (cut_data x).1
  rw [← hX] at HBd hXf hXd hX1
  have HXf := hideE hXf
  have HXd := hideE hXd
  clear hS hF hX hXf hx0 b0 hXd
  unfold prgV at HBd
  unfold prgV
  go_enter Try.func5, Try.ntmps5
  go_wp2_with fail
  refine HBd.out.mono ?_
  rintro e w1 ⟨v, rfl, hown, hb1⟩
  obtain ⟨p, c, rfl⟩ := own_slice' hown
  have hx1 := keptN hb1 HX0.out
  have hL := LX.put (X := X) hx1 hown (by simp) (HB0.out.trans (hb1.mono (by simp)))
  have HL0 := hideE hL
  clear hown hb1 hL HX0 HB0 HBd
  go_upto_region 2 with (first
    | (refine wpList_store_row rfl 25 _ _ rfl w.heap.size _ rfl rfl _ _ hx1 (by kernel_rfl) rfl (by kernel_rfl) ?_))
  refine gen_world (LX w X (.slice p X.segs.length c)) HL0.out ?_
  intro wa hLa
  clear HL0 hx1
  have hd6 : ∀ g ∈ X.segs, g.data.length ≤ 65536 := fun g hg => Nat.le_trans (HXd.out g hg) (by decide)
  by_cases h0 : chk X.segs = 0
  · have HL1 := hideE (load_ok X (.slice p X.segs.length c) HXf.out hd6 h0 wa hLa.s)
    have HR1 := hideE (fun (W : World) (hs : SlS W (.slice p X.segs.length c) X.segs) => rload_ok X (.slice p X.segs.length c) (by omega) hd6 h0 W hs)
    unfold prgV at HL1 HR1
    have hbx := hLa.box
    have HLa := hideE hLa
    clear hLa hd6 h0
    go_wp2_with (first
      | (refine wpList_load_row rfl 25 _ rfl w.heap.size rfl _ _ _ _ hbx Try.underlying25 rfl (by kernel_rfl) ?_))
    refine HL1.out.mono ?_
    rintro e w2 ⟨pb, bm, rfl, hm, _, _, hb2⟩
    have hL2 := HLa.out.below hb2
    have hbx := hL2.box
    have HM2 := hideE hm
    have HL2 := hideE hL2
    clear hm hb2 hL2 HLa HL1
    go_wp2_with (first
      | (refine wpList_load_row rfl 25 _ rfl w.heap.size rfl _ _ _ _ hbx Try.underlying25 rfl (by kernel_rfl) ?_))
    refine (HR1.out _ HL2.out.s).mono ?_
    rintro e w3 ⟨kb, B, rfl, hR, hB, hb3⟩
    have HM := hideE (HM2.out.below hb3)
    have hlow := HL2.out.low.trans (hb3.mono HL2.out.low.size)
    have HLen := hideE hR.rise.length
    obtain ⟨rv, hkb, hrow⟩ := hR.got
    obtain ⟨pr, cr, rfl⟩ := own_slice' hrow
    have HR := hideE hrow
    have hz : LoK w kb _ w3 := ⟨hlow, hkb⟩
    clear hb3 HM2 HL2 HR1 hR hrow hlow hkb hbx
    generalize hrv : Value.slice pr (memOf X.segs).length cr = rv at *
    go_wp2_with fail
    obtain ⟨wz, hwz⟩ : ∃ wz, wz = w3 := ⟨_, rfl⟩
    subst hwz
    refine wp_region_noPanic ?_
    refine wp_region_held_drew (S := LoK w kb rv) (by kernel_rfl) hz.drew (fun h0 => ?_)
    refine wpAnyH_takeAt (i := 0) (v := ?_) rfl (by kernel_rfl) (by kernel_rfl) (by kernel_rfl) (fun _ _ _ h => h) (Or.inl ⟨by rfl, ?_⟩) h0 ?_
    rotate_left 1
    · intro w' hS; have y0 := heap_cell hS.kb; clear hS
      go_simp <;> with_reducible rfl
    try simp only [Act.put, List.setIfInBounds_toArray, List.set_cons_zero, List.set_cons_succ]
    refine wpAnyH_takeAt (i := 1) (v := ?_) rfl (by kernel_rfl) (by kernel_rfl) (by kernel_rfl) (fun _ _ _ h => h) (Or.inl ⟨by rfl, ?_⟩) h0 ?_
    rotate_left 1
    · intro w' hS; have y0 := heap_cell hS.kb; clear hS
      go_simp <;> with_reducible rfl
    try simp only [Act.put, List.setIfInBounds_toArray, List.set_cons_zero, List.set_cons_succ]
    refine wpAnyH_takeAt (i := 2) (v := ?_) rfl (by kernel_rfl) (by kernel_rfl) (by kernel_rfl) (fun _ _ _ h => h) (Or.inl ⟨by rfl, ?_⟩) h0 ?_
    rotate_left 1
    · intro w' hS; have y0 := heap_cell hS.kb; clear hS
      go_simp <;> with_reducible rfl
    try simp only [Act.put, List.setIfInBounds_toArray, List.set_cons_zero, List.set_cons_succ]
    refine wpAnyH_takeAt (i := 3) (v := ?_) rfl (by kernel_rfl) (by kernel_rfl) (by kernel_rfl) (fun _ _ _ h => h) (Or.inl ⟨by rfl, ?_⟩) h0 ?_
    rotate_left 1
    · intro w' hS; have y0 := heap_cell hS.kb; clear hS
      go_simp <;> with_reducible rfl
    try simp only [Act.put, List.setIfInBounds_toArray, List.set_cons_zero, List.set_cons_succ]
    refine wpAnyH_takeAt (i := 5) (v := ?_) rfl (by kernel_rfl) (by kernel_rfl) (by kernel_rfl) (fun _ _ _ h => h) (Or.inl ⟨by rfl, ?_⟩) h0 ?_
    rotate_left 1
    · intro w' hS; have y0 := heap_cell hS.kb; clear hS
      go_simp <;> with_reducible rfl
    try simp only [Act.put, List.setIfInBounds_toArray, List.set_cons_zero, List.set_cons_succ]
    refine wpAnyH_takeAt (i := 6) (v := ?_) rfl (by kernel_rfl) (by kernel_rfl) (by kernel_rfl) (fun _ _ _ h => h) (Or.inl ⟨by rfl, ?_⟩) h0 ?_
    rotate_left 1
    · intro w' hS; have y0 := heap_cell hS.kb; clear hS
      go_simp <;> with_reducible rfl
    try simp only [Act.put, List.setIfInBounds_toArray, List.set_cons_zero, List.set_cons_succ]
    refine wpAnyH_takeAt (i := 7) (v := ?_) rfl (by kernel_rfl) (by kernel_rfl) (by kernel_rfl) (fun _ _ _ h => h) (Or.inl ⟨by rfl, ?_⟩) h0 ?_
    rotate_left 1
    · intro w' hS; have y0 := heap_cell hS.kb; clear hS
      go_simp <;> with_reducible rfl
    try simp only [Act.put, List.setIfInBounds_toArray, List.set_cons_zero, List.set_cons_succ]
    refine wpAnyH_takeAt (i := 8) (v := ?_) rfl (by kernel_rfl) (by kernel_rfl) (by kernel_rfl) (fun _ _ _ h => h) (Or.inl ⟨by rfl, ?_⟩) h0 ?_
    rotate_left 1
    · intro w' hS; have y0 := heap_cell hS.kb; clear hS
      go_simp <;> with_reducible rfl
    try simp only [Act.put, List.setIfInBounds_toArray, List.set_cons_zero, List.set_cons_succ]
    refine wpAnyH_ready (rs := [4]) (by kernel_rfl) (by simp) (allReady_at rfl (fun K' hK => ?_))
    go_simp
    refine (cells_any _ (HM.out.below (Below.refl _ _).drew)).mono ?_
    rintro e w5 ⟨v5, rfl, ho5, hb5⟩
    dsimp only
    have hr5 := ownE_below (ownE_below HR.out (Below.refl _ _).drew) hb5
    have h1 : LoK w kb rv w5 := h0.below hb5
    refine hK.out _ _ h1 (fun _ => ?_)
    clear hK K'
    try simp only [Act.put, List.setIfInBounds_toArray, List.set_cons_zero, List.set_cons_succ]
    refine wpAnyH_ready (rs := [9]) (by kernel_rfl) (by simp) (allReady_at rfl (fun K' hK => ?_))
    go_simp
    refine (same_yes _ ho5 hr5 HLen.out).mono ?_
    rintro e w6 ⟨rfl, nn, rfl⟩
    dsimp only
    have h2 : LoK w kb rv _ := h1.below (drew_low w5 nn _)
    refine hK.out _ _ h2 (fun _ => ?_)
    clear hK K'
    try simp only [Act.put, List.setIfInBounds_toArray, List.set_cons_zero, List.set_cons_succ]
    refine wpAnyH_takeAt (i := 10) (v := ?_) rfl (by kernel_rfl) (by kernel_rfl) (by kernel_rfl) (fun _ _ _ h => h) (Or.inl ⟨by rfl, ?_⟩) h2 ?_
    rotate_left 1
    · intro w' hS; clear hS
      go_simp <;> with_reducible rfl
    try simp only [Act.put, List.setIfInBounds_toArray, List.set_cons_zero, List.set_cons_succ]
    refine wpAnyH_takeAt (i := 11) (v := ?_) rfl (by kernel_rfl) (by kernel_rfl) (by kernel_rfl) (fun _ _ _ h => h) (Or.inl ⟨by rfl, ?_⟩) h2 ?_
    rotate_left 1
    · intro w' hS; clear hS
      go_simp <;> with_reducible rfl
    try simp only [Act.put, List.setIfInBounds_toArray, List.set_cons_zero, List.set_cons_succ]
    refine wpAnyH_ready (rs := [12]) (by kernel_rfl) (by simp) (allReady_at rfl (fun K' hK => ?_))
    go_simp
    refine (fixed7_any _).mono ?_
    rintro e w7 ⟨rfl, hb7⟩
    dsimp only
    have h3 : LoK w kb rv w7 := h2.below hb7
    refine hK.out _ _ h3 (fun _ => ?_)
    clear hK K'
    try simp only [Act.put, List.setIfInBounds_toArray, List.set_cons_zero, List.set_cons_succ]
    refine wpAnyH_takeAt (i := 13) (v := ?_) rfl (by kernel_rfl) (by kernel_rfl) (by kernel_rfl) (fun _ _ _ h => h) (Or.inl ⟨by rfl, ?_⟩) h3 ?_
    rotate_left 1
    · intro w' hS; clear hS
      go_simp <;> with_reducible rfl
    try simp only [Act.put, List.setIfInBounds_toArray, List.set_cons_zero, List.set_cons_succ]
    refine wpAnyH_takeAt (i := 14) (v := ?_) rfl (by kernel_rfl) (by kernel_rfl) (by kernel_rfl) (fun _ _ _ h => h) (Or.inl ⟨by rfl, ?_⟩) h3 ?_
    rotate_left 1
    · intro w' hS; clear hS
      go_simp <;> with_reducible rfl
    try simp only [Act.put, List.setIfInBounds_toArray, List.set_cons_zero, List.set_cons_succ]
    refine wpAnyH_done (by kernel_rfl) ?_ _
    refine NoPanic.normal ?_
    go_wp2_with fail
    go_ret
    exact ⟨rfl, h3.low⟩
  · have HL1 := hideE (load_bad X (.slice p X.segs.length c) HXf.out h0 wa hLa.s)
    have HR1 := hideE (fun (W : World) (hs : SlS W (.slice p X.segs.length c) X.segs) => rload_bad X (.slice p X.segs.length c) (by omega) h0 W hs)
    unfold prgV at HL1 HR1
    have hq : (chk X.segs != 0) = true := bne_iff_ne.2 h0
    have hbx := hLa.box
    have HLa := hideE hLa
    clear hLa hd6 h0
    generalize chk X.segs = k at *
    go_wp2_with (first
      | (refine wpList_load_row rfl 25 _ rfl w.heap.size rfl _ _ _ _ hbx Try.underlying25 rfl (by kernel_rfl) ?_))
    refine HL1.out.mono ?_
    rintro e w2 ⟨rfl, hb2⟩
    have hL2 := HLa.out.below hb2
    have hbx := hL2.box
    have HL2 := hideE hL2
    clear hb2 hL2 HLa HL1
    go_wp2_with (first
      | (refine wpList_load_row rfl 25 _ rfl w.heap.size rfl _ _ _ _ hbx Try.underlying25 rfl (by kernel_rfl) ?_))
    refine (HR1.out _ HL2.out.s).mono ?_
    rintro e w3 ⟨rfl, hb3⟩
    have hz : Lo w w3 := ⟨HL2.out.low.trans (hb3.mono HL2.out.low.size)⟩
    clear hb3 HL2 HR1 hbx
    go_wp2_with fail
    obtain ⟨wz, hwz⟩ : ∃ wz, wz = w3 := ⟨_, rfl⟩
    subst hwz
    refine wp_region_noPanic ?_
    refine wp_region_held_drew (S := Lo w) (by kernel_rfl) hz.drew (fun h0 => ?_)
    refine wpAnyH_takeAt (i := 0) (v := ?_) rfl (by kernel_rfl) (by kernel_rfl) (by kernel_rfl) (fun _ _ _ h => h) (Or.inl ⟨by rfl, ?_⟩) h0 ?_
    rotate_left 1
    · intro w' hS; clear hS
      go_simp <;> with_reducible rfl
    try simp only [Act.put, List.setIfInBounds_toArray, List.set_cons_zero, List.set_cons_succ]
    refine wpAnyH_takeAt (i := 1) (v := ?_) rfl (by kernel_rfl) (by kernel_rfl) (by kernel_rfl) (fun _ _ _ h => h) (Or.inl ⟨by rfl, ?_⟩) h0 ?_
    rotate_left 1
    · intro w' hS; clear hS
      go_simp <;> with_reducible rfl
    try simp only [Act.put, List.setIfInBounds_toArray, List.set_cons_zero, List.set_cons_succ]
    refine wpAnyH_takeAt (i := 2) (v := ?_) rfl (by kernel_rfl) (by kernel_rfl) (by kernel_rfl) (fun _ _ _ h => h) (Or.inl ⟨by rfl, ?_⟩) h0 ?_
    rotate_left 1
    · intro w' hS; clear hS
      go_simp <;> with_reducible rfl
    try simp only [Act.put, List.setIfInBounds_toArray, List.set_cons_zero, List.set_cons_succ]
    refine wpAnyH_takeAt (i := 3) (v := undef) rfl (by kernel_rfl) (by kernel_rfl) (by kernel_rfl) (fun _ _ _ h => h) (Or.inr ⟨by rfl, rfl⟩) h0 ?_
    try simp only [Act.put, List.setIfInBounds_toArray, List.set_cons_zero, List.set_cons_succ]
    refine wpAnyH_takeAt (i := 4) (v := undef) rfl (by kernel_rfl) (by kernel_rfl) (by kernel_rfl) (fun _ _ _ h => h) (Or.inr ⟨by rfl, rfl⟩) h0 ?_
    try simp only [Act.put, List.setIfInBounds_toArray, List.set_cons_zero, List.set_cons_succ]
    refine wpAnyH_takeAt (i := 5) (v := undef) rfl (by kernel_rfl) (by kernel_rfl) (by kernel_rfl) (fun _ _ _ h => h) (Or.inr ⟨by rfl, rfl⟩) h0 ?_
    try simp only [Act.put, List.setIfInBounds_toArray, List.set_cons_zero, List.set_cons_succ]
    refine wpAnyH_takeAt (i := 6) (v := undef) rfl (by kernel_rfl) (by kernel_rfl) (by kernel_rfl) (fun _ _ _ h => h) (Or.inr ⟨by rfl, rfl⟩) h0 ?_
    try simp only [Act.put, List.setIfInBounds_toArray, List.set_cons_zero, List.set_cons_succ]
    refine wpAnyH_takeAt (i := 7) (v := undef) rfl (by kernel_rfl) (by kernel_rfl) (by kernel_rfl) (fun _ _ _ h => h) (Or.inr ⟨by rfl, rfl⟩) h0 ?_
    try simp only [Act.put, List.setIfInBounds_toArray, List.set_cons_zero, List.set_cons_succ]
    refine wpAnyH_takeAt (i := 8) (v := undef) rfl (by kernel_rfl) (by kernel_rfl) (by kernel_rfl) (fun _ _ _ h => h) (Or.inr ⟨by rfl, rfl⟩) h0 ?_
    try simp only [Act.put, List.setIfInBounds_toArray, List.set_cons_zero, List.set_cons_succ]
    refine wpAnyH_takeAt (i := 9) (v := undef) rfl (by kernel_rfl) (by kernel_rfl) (by kernel_rfl) (fun _ _ _ h => h) (Or.inr ⟨by rfl, rfl⟩) h0 ?_
    try simp only [Act.put, List.setIfInBounds_toArray, List.set_cons_zero, List.set_cons_succ]
    refine wpAnyH_takeAt (i := 10) (v := ?_) rfl (by kernel_rfl) (by kernel_rfl) (by kernel_rfl) (fun _ _ _ h => h) (Or.inl ⟨by rfl, ?_⟩) h0 ?_
    rotate_left 1
    · intro w' hS; clear hS
      go_simp <;> with_reducible rfl
    try simp only [Act.put, List.setIfInBounds_toArray, List.set_cons_zero, List.set_cons_succ]
    refine wpAnyH_takeAt (i := 11) (v := ?_) rfl (by kernel_rfl) (by kernel_rfl) (by kernel_rfl) (fun _ _ _ h => h) (Or.inl ⟨by rfl, ?_⟩) h0 ?_
    rotate_left 1
    · intro w' hS; clear hS
      go_simp <;> with_reducible rfl
    try simp only [Act.put, List.setIfInBounds_toArray, List.set_cons_zero, List.set_cons_succ]
    refine wpAnyH_ready (rs := [12]) (by kernel_rfl) (by simp) (allReady_at rfl (fun K' hK => ?_))
    go_simp
    refine (fixed7_any _).mono ?_
    rintro e w7 ⟨rfl, hb7⟩
    dsimp only
    have h1 : Lo w w7 := h0.below hb7
    refine hK.out _ _ h1 (fun _ => ?_)
    clear hK K'
    try simp only [Act.put, List.setIfInBounds_toArray, List.set_cons_zero, List.set_cons_succ]
    refine wpAnyH_takeAt (i := 13) (v := ?_) rfl (by kernel_rfl) (by kernel_rfl) (by kernel_rfl) (fun _ _ _ h => h) (Or.inl ⟨by rfl, ?_⟩) h1 ?_
    rotate_left 1
    · intro w' hS; clear hS
      go_simp <;> with_reducible rfl
    try simp only [Act.put, List.setIfInBounds_toArray, List.set_cons_zero, List.set_cons_succ]
    refine wpAnyH_takeAt (i := 14) (v := ?_) rfl (by kernel_rfl) (by kernel_rfl) (by kernel_rfl) (fun _ _ _ h => h) (Or.inl ⟨by rfl, ?_⟩) h1 ?_
    rotate_left 1
    · intro w' hS; clear hS
      go_simp <;> with_reducible rfl
    try simp only [Act.put, List.setIfInBounds_toArray, List.set_cons_zero, List.set_cons_succ]
    refine wpAnyH_done (by kernel_rfl) ?_ _
    refine NoPanic.normal ?_
    go_wp2_with fail
    go_ret
    exact ⟨rfl, h1.low⟩
end Go.Proofs.Ytkfomhllaogplaa
