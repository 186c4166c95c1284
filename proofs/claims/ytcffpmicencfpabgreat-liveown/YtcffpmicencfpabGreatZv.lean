/-
  Contract of the document's try: the instruction of a kind that a word would be.
-/

import Derived.Test.YtcffpmicencfpabGreatZu
namespace Go.Proofs.YtcffpmicencfpabGreat
open Go.RowKit Ip

/-- A world in which the answer's box is still zero and the instruction's box holds these numbers; both may be written; all that was there is as it was. -/
structure HeldT (w : World) (k a b c d : Int) (W : World) : Prop where
  z0 : W.cell? ⟨w.heap.size, 0, none⟩ = some (.int .i64 0)
  z1 : W.cell? ⟨w.heap.size, 1, none⟩ = some (.int .i64 0)
  z2 : W.cell? ⟨w.heap.size, 2, none⟩ = some (.int .i64 0)
  z3 : W.cell? ⟨w.heap.size, 3, none⟩ = some (.int .i64 0)
  z4 : W.cell? ⟨w.heap.size, 4, none⟩ = some (.int .i64 0)
  x0 : W.cell? ⟨w.heap.size + 1, 0, none⟩ = some (.int .i64 k)
  x1 : W.cell? ⟨w.heap.size + 1, 1, none⟩ = some (.int .i64 a)
  x2 : W.cell? ⟨w.heap.size + 1, 2, none⟩ = some (.int .i64 b)
  x3 : W.cell? ⟨w.heap.size + 1, 3, none⟩ = some (.int .i64 c)
  x4 : W.cell? ⟨w.heap.size + 1, 4, none⟩ = some (.int .i64 d)
  f0 : ∀ o, W.frozen? ⟨w.heap.size, o, none⟩ = false
  f1 : ∀ o, W.frozen? ⟨w.heap.size + 1, o, none⟩ = false
  below : Below w.heap.size w W
  s0 : w.heap.size < W.heap.size
  s1 : w.heap.size + 1 < W.heap.size
theorem HeldT.later {w : World} {k a b c d : Int} {W w1 : World} (h : HeldT w k a b c d W) (hb : Below W.heap.size W w1) : HeldT w k a b c d w1 := by
  obtain ⟨hc, hf⟩ := bcell hb
  exact ⟨(hc _ _ h.s0).trans h.z0, (hc _ _ h.s0).trans h.z1, (hc _ _ h.s0).trans h.z2, (hc _ _ h.s0).trans h.z3, (hc _ _ h.s0).trans h.z4, (hc _ _ h.s1).trans h.x0, (hc _ _ h.s1).trans h.x1, (hc _ _ h.s1).trans h.x2, (hc _ _ h.s1).trans h.x3, (hc _ _ h.s1).trans h.x4,
    fun o => (hf _ _ h.s0).trans (h.f0 o), fun o => (hf _ _ h.s1).trans (h.f1 o), h.below.trans (hb.mono (by have := h.s0; omega)), Nat.lt_of_lt_of_le h.s0 hb.size, Nat.lt_of_lt_of_le h.s1 hb.size⟩
theorem HeldT.start (w : World) (k : Int) (t : TypeId) : HeldT w k 0 0 0 0 ((w.alloc (.cells #[.int .i64 0, .int .i64 0, .int .i64 0, .int .i64 0, .int .i64 0] t)).alloc (.cells #[.int .i64 k, .int .i64 0, .int .i64 0, .int .i64 0, .int .i64 0] t)) := by
  have hn : ∀ o, ((w.alloc (.cells #[.int .i64 0, .int .i64 0, .int .i64 0, .int .i64 0, .int .i64 0] t)).alloc (.cells #[.int .i64 k, .int .i64 0, .int .i64 0, .int .i64 0, .int .i64 0] t)).cell? ⟨w.heap.size, o, none⟩ = (#[.int .i64 0, .int .i64 0, .int .i64 0, .int .i64 0, .int .i64 0] : Array Value)[o]? := fun o => by
    rw [World.cell?_alloc_past _ _ _ (by simp), World.cell?_alloc_at _ _ _ _ rfl]
  have hm : ∀ o, ((w.alloc (.cells #[.int .i64 0, .int .i64 0, .int .i64 0, .int .i64 0, .int .i64 0] t)).alloc (.cells #[.int .i64 k, .int .i64 0, .int .i64 0, .int .i64 0, .int .i64 0] t)).cell? ⟨w.heap.size + 1, o, none⟩ = (#[.int .i64 k, .int .i64 0, .int .i64 0, .int .i64 0, .int .i64 0] : Array Value)[o]? := fun o => by
    rw [World.cell?_alloc_at _ _ _ _ (by simp)]
  refine ⟨hn 0, hn 1, hn 2, hn 3, hn 4, hm 0, hm 1, hm 2, hm 3, hm 4, fun o => ?_, fun o => ?_, ((Below.refl _ _).alloc (Nat.le_refl _) _).alloc (by simp) _, by simp; omega, by simp⟩
  · simp
  · simp
theorem HeldT.set1 {w : World} {k a b c d : Int} {W : World} (h : HeldT w k a b c d W) (v : Int) : HeldT w k v b c d (W.setCell ⟨w.heap.size + 1, 1, none⟩ (.int .i64 v)) := by
  have ne : ∀ o, (⟨w.heap.size + 1, 1, none⟩ : Addr) ≠ ⟨w.heap.size, o, none⟩ := fun o c => by injection c with c1; omega
  have nf : ∀ o, 1 ≠ o → (⟨w.heap.size + 1, 1, none⟩ : Addr) ≠ ⟨w.heap.size + 1, o, none⟩ := fun o c c2 => c (by injection c2)
  refine ⟨by rw [World.cell?_setCell_other _ _ _ _ (ne _)]; exact h.z0, by rw [World.cell?_setCell_other _ _ _ _ (ne _)]; exact h.z1, by rw [World.cell?_setCell_other _ _ _ _ (ne _)]; exact h.z2, by rw [World.cell?_setCell_other _ _ _ _ (ne _)]; exact h.z3, by rw [World.cell?_setCell_other _ _ _ _ (ne _)]; exact h.z4, by rw [World.cell?_setCell_other _ _ _ _ (nf _ (by decide))]; exact h.x0, World.cell?_setCell_same _ _ _ h.x1, by rw [World.cell?_setCell_other _ _ _ _ (nf _ (by decide))]; exact h.x2, by rw [World.cell?_setCell_other _ _ _ _ (nf _ (by decide))]; exact h.x3, by rw [World.cell?_setCell_other _ _ _ _ (nf _ (by decide))]; exact h.x4, fun o => by rw [World.frozen?_setCell]; exact h.f0 o, fun o => by rw [World.frozen?_setCell]; exact h.f1 o, h.below.setCell (Nat.le_succ _) _, by rw [World.size_setCell]; exact h.s0, by rw [World.size_setCell]; exact h.s1⟩
theorem HeldT.set2 {w : World} {k a b c d : Int} {W : World} (h : HeldT w k a b c d W) (v : Int) : HeldT w k a v c d (W.setCell ⟨w.heap.size + 1, 2, none⟩ (.int .i64 v)) := by
  have ne : ∀ o, (⟨w.heap.size + 1, 2, none⟩ : Addr) ≠ ⟨w.heap.size, o, none⟩ := fun o c => by injection c with c1; omega
  have nf : ∀ o, 2 ≠ o → (⟨w.heap.size + 1, 2, none⟩ : Addr) ≠ ⟨w.heap.size + 1, o, none⟩ := fun o c c2 => c (by injection c2)
  refine ⟨by rw [World.cell?_setCell_other _ _ _ _ (ne _)]; exact h.z0, by rw [World.cell?_setCell_other _ _ _ _ (ne _)]; exact h.z1, by rw [World.cell?_setCell_other _ _ _ _ (ne _)]; exact h.z2, by rw [World.cell?_setCell_other _ _ _ _ (ne _)]; exact h.z3, by rw [World.cell?_setCell_other _ _ _ _ (ne _)]; exact h.z4, by rw [World.cell?_setCell_other _ _ _ _ (nf _ (by decide))]; exact h.x0, by rw [World.cell?_setCell_other _ _ _ _ (nf _ (by decide))]; exact h.x1, World.cell?_setCell_same _ _ _ h.x2, by rw [World.cell?_setCell_other _ _ _ _ (nf _ (by decide))]; exact h.x3, by rw [World.cell?_setCell_other _ _ _ _ (nf _ (by decide))]; exact h.x4, fun o => by rw [World.frozen?_setCell]; exact h.f0 o, fun o => by rw [World.frozen?_setCell]; exact h.f1 o, h.below.setCell (Nat.le_succ _) _, by rw [World.size_setCell]; exact h.s0, by rw [World.size_setCell]; exact h.s1⟩
theorem HeldT.set3 {w : World} {k a b c d : Int} {W : World} (h : HeldT w k a b c d W) (v : Int) : HeldT w k a b v d (W.setCell ⟨w.heap.size + 1, 3, none⟩ (.int .i64 v)) := by
  have ne : ∀ o, (⟨w.heap.size + 1, 3, none⟩ : Addr) ≠ ⟨w.heap.size, o, none⟩ := fun o c => by injection c with c1; omega
  have nf : ∀ o, 3 ≠ o → (⟨w.heap.size + 1, 3, none⟩ : Addr) ≠ ⟨w.heap.size + 1, o, none⟩ := fun o c c2 => c (by injection c2)
  refine ⟨by rw [World.cell?_setCell_other _ _ _ _ (ne _)]; exact h.z0, by rw [World.cell?_setCell_other _ _ _ _ (ne _)]; exact h.z1, by rw [World.cell?_setCell_other _ _ _ _ (ne _)]; exact h.z2, by rw [World.cell?_setCell_other _ _ _ _ (ne _)]; exact h.z3, by rw [World.cell?_setCell_other _ _ _ _ (ne _)]; exact h.z4, by rw [World.cell?_setCell_other _ _ _ _ (nf _ (by decide))]; exact h.x0, by rw [World.cell?_setCell_other _ _ _ _ (nf _ (by decide))]; exact h.x1, by rw [World.cell?_setCell_other _ _ _ _ (nf _ (by decide))]; exact h.x2, World.cell?_setCell_same _ _ _ h.x3, by rw [World.cell?_setCell_other _ _ _ _ (nf _ (by decide))]; exact h.x4, fun o => by rw [World.frozen?_setCell]; exact h.f0 o, fun o => by rw [World.frozen?_setCell]; exact h.f1 o, h.below.setCell (Nat.le_succ _) _, by rw [World.size_setCell]; exact h.s0, by rw [World.size_setCell]; exact h.s1⟩
theorem HeldT.set4 {w : World} {k a b c d : Int} {W : World} (h : HeldT w k a b c d W) (v : Int) : HeldT w k a b c v (W.setCell ⟨w.heap.size + 1, 4, none⟩ (.int .i64 v)) := by
  have ne : ∀ o, (⟨w.heap.size + 1, 4, none⟩ : Addr) ≠ ⟨w.heap.size, o, none⟩ := fun o c => by injection c with c1; omega
  have nf : ∀ o, 4 ≠ o → (⟨w.heap.size + 1, 4, none⟩ : Addr) ≠ ⟨w.heap.size + 1, o, none⟩ := fun o c c2 => c (by injection c2)
  refine ⟨by rw [World.cell?_setCell_other _ _ _ _ (ne _)]; exact h.z0, by rw [World.cell?_setCell_other _ _ _ _ (ne _)]; exact h.z1, by rw [World.cell?_setCell_other _ _ _ _ (ne _)]; exact h.z2, by rw [World.cell?_setCell_other _ _ _ _ (ne _)]; exact h.z3, by rw [World.cell?_setCell_other _ _ _ _ (ne _)]; exact h.z4, by rw [World.cell?_setCell_other _ _ _ _ (nf _ (by decide))]; exact h.x0, by rw [World.cell?_setCell_other _ _ _ _ (nf _ (by decide))]; exact h.x1, by rw [World.cell?_setCell_other _ _ _ _ (nf _ (by decide))]; exact h.x2, by rw [World.cell?_setCell_other _ _ _ _ (nf _ (by decide))]; exact h.x3, World.cell?_setCell_same _ _ _ h.x4, fun o => by rw [World.frozen?_setCell]; exact h.f0 o, fun o => by rw [World.frozen?_setCell]; exact h.f1 o, h.below.setCell (Nat.le_succ _) _, by rw [World.size_setCell]; exact h.s0, by rw [World.size_setCell]; exact h.s1⟩

/-- The number that the first places of a form tell. -/
def refN (x : BitVec 32) (F : Nat) : Nat → Int
  | 0 => 0
  | j + 1 => if 0 ≤ (plc F).getD j 0 ∧ x.getLsbD ((plc F).getD j 0).toNat = true then (if j + 1 = pln F ∧ hSg F = true then refN x F j + 2 ^ j - 2 * 2 ^ j else refN x F j + 2 ^ j) else refN x F j
theorem refN_bound (x : BitVec 32) (F : Nat) : ∀ j, -(2 ^ j) ≤ refN x F j ∧ refN x F j < 2 ^ j ∧ (j < pln F → 0 ≤ refN x F j)
  | 0 => by simp [refN]
  | j + 1 => by
    obtain ⟨h1, h2, h3⟩ := refN_bound x F j
    have e : (2 : Int) ^ (j + 1) = 2 * 2 ^ j := by rw [Int.pow_succ]; omega
    have hp : (0 : Int) < 2 ^ j := Int.pow_pos (by omega)
    unfold refN
    rw [e]
    generalize (2 : Int) ^ j = P at *
    split
    · split
      · omega
      · refine ⟨by omega, by omega, fun hj => ?_⟩
        have := h3 (by omega)
        omega
    · refine ⟨by omega, by omega, fun hj => ?_⟩
      exact h3 (by omega)
theorem pln_le2 (F : Nat) : pln F ≤ 21 := by
  unfold pln plc
  repeat' split
  all_goals decide
theorem pow_in (j : Nat) (h : j ≤ 21) : ∃ P : Int, (2 : Int) ^ j = P ∧ 1 ≤ P ∧ P ≤ 2097152 := by
  refine ⟨_, rfl, ?_, ?_⟩
  · have : (0 : Int) < 2 ^ j := Int.pow_pos (by omega)
    omega
  · have : 2 ^ j ≤ 2 ^ 21 := Nat.pow_le_pow_right (by omega) h
    have e : (((2 ^ j : Nat)) : Int) = 2 ^ j := by simp
    omega
theorem int_i64 {a b : Int} (h : a = b) : Value.int .i64 a = .int .i64 b := by rw [h]
theorem rfield_to (x : BitVec 32) (a n : Int) (w : World) : Calls Tryz.prog 57 #[.int .u32 (x.toNat : Int), .int .i64 a, .int .i64 n] w fun e w' => e = .returned (.int .u32 ((Wd.field x a n).toNat : Int)) ∧ Below w.heap.size w w' := rfield_any x a n w
theorem bit_one (x : BitVec 32) (q : Nat) (b : Bool) (hb : x.getLsbD q = b) (w : World) : Calls Tryz.prog 59 #[.int .u32 (x.toNat : Int), .int .i64 (q : Int)] w fun e w' => e = .returned (.int .u32 (if b = true then 1 else 0)) ∧ w' = w :=
  bit_to x _ (q : Int) b rfl (by rw [bitAt_nat2]; exact hb) w

set_option maxHeartbeats 8000000 in
theorem rtry_core (k : Nat) (hk : k < 47) (x : BitVec 32) (F : Nat) (hF : F = kf k) (b1 b2 b3 sg : Bool) (h1 : inB F ⟨#[85, 74, 73, 72, 82]⟩ = b1) (h2 : inB F ⟨#[73, 72, 66, 83, 82]⟩ = b2) (h3 : inB F ⟨#[66, 83, 82]⟩ = b3) (h4 : inB F ⟨#[74, 73, 83, 66]⟩ = sg) (hs : sg = hSg F) (w : World) :
    Calls Tryz.prog 36 #[.int .i64 (k : Int), .int .u32 (x.toNat : Int)] w fun e w' => e = .returned (.agg #[.int .i64 (k : Int), .int .i64 (regIf b1 x 7), .int .i64 (regIf b2 x 15), .int .i64 (regIf b3 x 20), .int .i64 (refN x F (pln F))]) ∧ Below w.heap.size w w' := by
  have HF : Hid (F = frm (k : Int)) := show _ = _ by rw [hF, frm_nat]
  have H8 : Hid (is8 F) := show is8 F from hF ▸ is8_kf k hk
  have HSG : Hid (sg = hSg F) := hs
  have H4 : Hid (inB F ⟨#[74, 73, 83, 66]⟩ = sg) := h4
  clear hF hs h4
  cases b1 <;> cases b2 <;> cases b3
  · go_enter Tryz.func36, Tryz.ntmps36
    go_wp2_with fail
    refine (rform_to (k : Int) F HF.out _).mono ?_
    rintro e _ ⟨rfl, rfl⟩
    have HT0 : Hid (HeldT w (k : Int) 0 0 0 0 ((w.alloc (.cells #[.int .i64 0, .int .i64 0, .int .i64 0, .int .i64 0, .int .i64 0] 38)).alloc (.cells #[.int .i64 (k : Int), .int .i64 0, .int .i64 0, .int .i64 0, .int .i64 0] 38))) := HeldT.start w (k : Int) 38
    go_wp2_with fail
    refine (inB_any _ _ (by decide) _).mono ?_
    rintro e _ ⟨rfl, rfl⟩
    rw [h1]
    go_wp2_with fail
    refine (inB_any _ _ (by decide) _).mono ?_
    rintro e _ ⟨rfl, rfl⟩
    rw [h2]
    go_wp2_with fail
    refine (inB_any _ _ (by decide) _).mono ?_
    rintro e _ ⟨rfl, rfl⟩
    rw [h3]
    go_wp2_with fail
    refine (rplaces_any F H8.out _).mono ?_
    rintro e _ ⟨rfl, rfl⟩
    obtain ⟨W, pb, hW, hpb⟩ : ∃ (W : World) (pb : Nat), W = ((w.alloc (.cells #[.int .i64 0, .int .i64 0, .int .i64 0, .int .i64 0, .int .i64 0] 38)).alloc (.cells #[.int .i64 (k : Int), .int .i64 0, .int .i64 0, .int .i64 0, .int .i64 0] 38)).alloc (.cells (PA F) 3) ∧ pb = ((w.alloc (.cells #[.int .i64 0, .int .i64 0, .int .i64 0, .int .i64 0, .int .i64 0] 38)).alloc (.cells #[.int .i64 (k : Int), .int .i64 0, .int .i64 0, .int .i64 0, .int .i64 0] 38)).heap.size := ⟨_, _, rfl, rfl⟩
    have HTW : Hid (HeldT w (k : Int) 0 0 0 0 W) := show HeldT _ _ _ _ _ _ _ by rw [hW]; exact (HT0.out).later ((Below.refl _ _).alloc (Nat.le_refl _) _)
    have yp : ∀ j, j < pln F → W.cell? ⟨pb, j, none⟩ = some (.int .i64 ((plc F).getD j 0)) := fun j hj => by
      rw [hW, World.cell?_alloc_at _ _ _ _ hpb]; exact PA_at F j hj
    rw [← hW, ← hpb]
    clear hW hpb
    have hL : pln F ≤ 32 := pln_le F
    have hL21 := pln_le2 F
    go_wp2_with fail
    go_loop [8, 9, 10] (fun n wt i => ∃ j : Nat, j ≤ pln F ∧ i = .int .i64 (j : Int) ∧ wt = .int .i64 (2 ^ j) ∧ n = .int .i64 (refN x F j)) (fun _ _ i => pln F - (intOf i).toNat)
    case atStart => exact ⟨0, Nat.zero_le _, rfl, rfl, rfl⟩
    case round =>
      obtain ⟨j, hj, rfl, rfl, rfl⟩ := hrel
      by_cases hlt : j < pln F
      · have hc := yp j hlt
        have hpr := plc_range F j
        obtain ⟨P, hP, P1, P2⟩ : ∃ P : Int, (2 : Int) ^ j = P ∧ 1 ≤ P ∧ P ≤ 2097152 := pow_in j (by omega)
        obtain ⟨N, hN, N1, N2⟩ : ∃ N : Int, refN x F j = N ∧ -P ≤ N ∧ N < P := ⟨_, rfl, by rw [← hP]; exact (refN_bound x F j).1, by rw [← hP]; exact (refN_bound x F j).2.1⟩
        have hP2 : (2 : Int) ^ (j + 1) = 2 * P := by rw [Int.pow_succ, hP]; omega
        have hR : refN x F (j + 1) = if 0 ≤ (plc F).getD j 0 ∧ x.getLsbD ((plc F).getD j 0).toNat = true then (if j + 1 = pln F ∧ hSg F = true then N + P - 2 * P else N + P) else N := by rw [← hN, ← hP]; rfl
        obtain ⟨pp, hpp⟩ : ∃ pp, (plc F).getD j 0 = pp := ⟨_, rfl⟩
        rw [hpp] at hc hR hpr
        rw [hP, hN]
        rw [← HSG.out] at hR
        have HR : Hid (refN x F (j + 1) = if 0 ≤ pp ∧ x.getLsbD pp.toNat = true then (if j + 1 = pln F ∧ sg = true then N + P - 2 * P else N + P) else N) := hR
        have HP2 : Hid ((2 : Int) ^ (j + 1) = 2 * P) := hP2
        clear hP hN hP2 hR hpp yp
        by_cases h0 : 0 ≤ pp
        · obtain ⟨q, rfl⟩ := Int.eq_ofNat_of_zero_le h0
          cases hb : x.getLsbD q
          · have HE : Hid (refN x F (j + 1) = N) := show _ = _ by rw [HR.out, Int.toNat_natCast, hb, if_neg (by simp)]
            have HB : Hid (x.getLsbD q = false) := hb
            clear hb
            go_wp2_with fail
            refine (bit_one x q false HB.out _).mono ?_
            rintro e _ ⟨rfl, rfl⟩
            go_wp2_with fail
            go_round
            case rel => exact ⟨j + 1, by omega, by go_num, int_i64 HP2.out.symm, int_i64 HE.out.symm⟩
            case measure => simp [intOf]; omega
          · have HB : Hid (x.getLsbD q = true) := hb
            have HR1 : Hid (refN x F (j + 1) = if j + 1 = pln F ∧ sg = true then N + P - 2 * P else N + P) := show _ = _ by rw [HR.out, Int.toNat_natCast, hb, if_pos ⟨h0, rfl⟩]
            clear hb
            by_cases hlast : j + 1 = pln F
            · have hl : ((j : Int) == (pln F : Int) - 1) = true := by rw [beq_iff_eq]; omega
              have q4 := H4.out
              have HLs : Hid (j + 1 = pln F) := hlast
              clear hlast
              cases sg
              · have HE : Hid (refN x F (j + 1) = N + P) := show _ = _ by rw [HR1.out, if_neg (by simp)]
                go_wp2_with fail
                refine (bit_one x q true HB.out _).mono ?_
                rintro e _ ⟨rfl, rfl⟩
                go_wp2_with fail
                refine (inB_any _ _ (by decide) _).mono ?_
                rintro e _ ⟨rfl, rfl⟩
                go_wp2_with fail
                go_round
                case rel => exact ⟨j + 1, by have := HLs.out; omega, by go_num, int_i64 HP2.out.symm, int_i64 HE.out.symm⟩
                case measure => simp [intOf]; omega
              · have HE : Hid (refN x F (j + 1) = N + P - 2 * P) := show _ = _ by rw [HR1.out, if_pos ⟨HLs.out, rfl⟩]
                go_wp2_with fail
                refine (bit_one x q true HB.out _).mono ?_
                rintro e _ ⟨rfl, rfl⟩
                go_wp2_with fail
                refine (inB_any _ _ (by decide) _).mono ?_
                rintro e _ ⟨rfl, rfl⟩
                go_wp2_with fail
                go_round
                case rel => exact ⟨j + 1, by have := HLs.out; omega, by go_num, int_i64 HP2.out.symm, int_i64 HE.out.symm⟩
                case measure => simp [intOf]; omega
            · have hl : ((j : Int) == (pln F : Int) - 1) = false := by rw [beq_eq_false_iff_ne]; omega
              have HE : Hid (refN x F (j + 1) = N + P) := show _ = _ by rw [HR1.out, if_neg (fun c => hlast c.1)]
              clear hlast
              go_wp2_with fail
              refine (bit_one x q true HB.out _).mono ?_
              rintro e _ ⟨rfl, rfl⟩
              go_wp2_with fail
              go_round
              case rel => exact ⟨j + 1, by omega, by go_num, int_i64 HP2.out.symm, int_i64 HE.out.symm⟩
              case measure => simp [intOf]; omega
        · have HE : Hid (refN x F (j + 1) = N) := show _ = _ by rw [HR.out, if_neg (fun c => h0 c.1)]
          go_wp2_with fail
          go_round
          case rel => exact ⟨j + 1, by omega, by go_num, int_i64 HP2.out.symm, int_i64 HE.out.symm⟩
          case measure => simp [intOf]; omega
      · have ej : j = pln F := by omega
        have HJ : Hid (refN x F j = refN x F (pln F)) := show _ = _ by rw [ej]
        obtain ⟨N, hN⟩ : ∃ N : Int, refN x F j = N := ⟨_, rfl⟩
        rw [hN]
        rw [hN] at HJ
        obtain ⟨z0, z1, z2, z3, z4, x0, x1, x2, x3, x4, f0, f1, hB, s0, s1⟩ := HTW.out
        clear ej hN yp
        go_wp2_with fail
        refine bodyPost_ret (by simp [results, Tryz.results36, go_sem, regIf, z0, z1, z2, z3, z4]; exact HJ.out) rfl ⟨rfl, ?_⟩
        exact (((((hB.setCell (Nat.le_succ _) _).setCell (Nat.le_refl _) _).setCell (Nat.le_refl _) _).setCell (Nat.le_refl _) _).setCell (Nat.le_refl _) _).setCell (Nat.le_refl _) _
  · go_enter Tryz.func36, Tryz.ntmps36
    go_wp2_with fail
    refine (rform_to (k : Int) F HF.out _).mono ?_
    rintro e _ ⟨rfl, rfl⟩
    have HT0 : Hid (HeldT w (k : Int) 0 0 0 0 ((w.alloc (.cells #[.int .i64 0, .int .i64 0, .int .i64 0, .int .i64 0, .int .i64 0] 38)).alloc (.cells #[.int .i64 (k : Int), .int .i64 0, .int .i64 0, .int .i64 0, .int .i64 0] 38))) := HeldT.start w (k : Int) 38
    go_wp2_with fail
    refine (inB_any _ _ (by decide) _).mono ?_
    rintro e _ ⟨rfl, rfl⟩
    rw [h1]
    go_wp2_with fail
    refine (inB_any _ _ (by decide) _).mono ?_
    rintro e _ ⟨rfl, rfl⟩
    rw [h2]
    go_wp2_with fail
    refine (inB_any _ _ (by decide) _).mono ?_
    rintro e _ ⟨rfl, rfl⟩
    rw [h3]
    go_wp2_with fail
    refine (rfield_to x 20 5 _).mono ?_
    rintro e v3 ⟨rfl, c3⟩
    have HT3 : Hid (HeldT w (k : Int) 0 0 0 0 v3) := (HT0.out).later c3
    have y0 := HT3.out.x0
    have y1 := HT3.out.x1
    have y2 := HT3.out.x2
    have y3 := HT3.out.x3
    have y4 := HT3.out.x4
    have yf := HT3.out.f1
    go_wp2_with fail
    refine (rplaces_any F H8.out _).mono ?_
    rintro e _ ⟨rfl, rfl⟩
    clear y0 y1 y2 y3 y4 yf
    obtain ⟨W, pb, hW, hpb⟩ : ∃ (W : World) (pb : Nat), W = (v3.setCell ⟨w.heap.size + 1, 3, none⟩ (.int .i64 ((Wd.field x 20 5).toNat : Int))).alloc (.cells (PA F) 3) ∧ pb = (v3.setCell ⟨w.heap.size + 1, 3, none⟩ (.int .i64 ((Wd.field x 20 5).toNat : Int))).heap.size := ⟨_, _, rfl, rfl⟩
    have HTW : Hid (HeldT w (k : Int) 0 0 ((Wd.field x 20 5).toNat : Int) 0 W) := show HeldT _ _ _ _ _ _ _ by rw [hW]; exact (HT3.out.set3 ((Wd.field x 20 5).toNat : Int)).later ((Below.refl _ _).alloc (Nat.le_refl _) _)
    have yp : ∀ j, j < pln F → W.cell? ⟨pb, j, none⟩ = some (.int .i64 ((plc F).getD j 0)) := fun j hj => by
      rw [hW, World.cell?_alloc_at _ _ _ _ hpb]; exact PA_at F j hj
    rw [← hW, ← hpb]
    clear hW hpb
    have hL : pln F ≤ 32 := pln_le F
    have hL21 := pln_le2 F
    go_wp2_with fail
    go_loop [8, 9, 10] (fun n wt i => ∃ j : Nat, j ≤ pln F ∧ i = .int .i64 (j : Int) ∧ wt = .int .i64 (2 ^ j) ∧ n = .int .i64 (refN x F j)) (fun _ _ i => pln F - (intOf i).toNat)
    case atStart => exact ⟨0, Nat.zero_le _, rfl, rfl, rfl⟩
    case round =>
      obtain ⟨j, hj, rfl, rfl, rfl⟩ := hrel
      by_cases hlt : j < pln F
      · have hc := yp j hlt
        have hpr := plc_range F j
        obtain ⟨P, hP, P1, P2⟩ : ∃ P : Int, (2 : Int) ^ j = P ∧ 1 ≤ P ∧ P ≤ 2097152 := pow_in j (by omega)
        obtain ⟨N, hN, N1, N2⟩ : ∃ N : Int, refN x F j = N ∧ -P ≤ N ∧ N < P := ⟨_, rfl, by rw [← hP]; exact (refN_bound x F j).1, by rw [← hP]; exact (refN_bound x F j).2.1⟩
        have hP2 : (2 : Int) ^ (j + 1) = 2 * P := by rw [Int.pow_succ, hP]; omega
        have hR : refN x F (j + 1) = if 0 ≤ (plc F).getD j 0 ∧ x.getLsbD ((plc F).getD j 0).toNat = true then (if j + 1 = pln F ∧ hSg F = true then N + P - 2 * P else N + P) else N := by rw [← hN, ← hP]; rfl
        obtain ⟨pp, hpp⟩ : ∃ pp, (plc F).getD j 0 = pp := ⟨_, rfl⟩
        rw [hpp] at hc hR hpr
        rw [hP, hN]
        rw [← HSG.out] at hR
        have HR : Hid (refN x F (j + 1) = if 0 ≤ pp ∧ x.getLsbD pp.toNat = true then (if j + 1 = pln F ∧ sg = true then N + P - 2 * P else N + P) else N) := hR
        have HP2 : Hid ((2 : Int) ^ (j + 1) = 2 * P) := hP2
        clear hP hN hP2 hR hpp yp
        by_cases h0 : 0 ≤ pp
        · obtain ⟨q, rfl⟩ := Int.eq_ofNat_of_zero_le h0
          cases hb : x.getLsbD q
          · have HE : Hid (refN x F (j + 1) = N) := show _ = _ by rw [HR.out, Int.toNat_natCast, hb, if_neg (by simp)]
            have HB : Hid (x.getLsbD q = false) := hb
            clear hb
            go_wp2_with fail
            refine (bit_one x q false HB.out _).mono ?_
            rintro e _ ⟨rfl, rfl⟩
            go_wp2_with fail
            go_round
            case rel => exact ⟨j + 1, by omega, by go_num, int_i64 HP2.out.symm, int_i64 HE.out.symm⟩
            case measure => simp [intOf]; omega
          · have HB : Hid (x.getLsbD q = true) := hb
            have HR1 : Hid (refN x F (j + 1) = if j + 1 = pln F ∧ sg = true then N + P - 2 * P else N + P) := show _ = _ by rw [HR.out, Int.toNat_natCast, hb, if_pos ⟨h0, rfl⟩]
            clear hb
            by_cases hlast : j + 1 = pln F
            · have hl : ((j : Int) == (pln F : Int) - 1) = true := by rw [beq_iff_eq]; omega
              have q4 := H4.out
              have HLs : Hid (j + 1 = pln F) := hlast
              clear hlast
              cases sg
              · have HE : Hid (refN x F (j + 1) = N + P) := show _ = _ by rw [HR1.out, if_neg (by simp)]
                go_wp2_with fail
                refine (bit_one x q true HB.out _).mono ?_
                rintro e _ ⟨rfl, rfl⟩
                go_wp2_with fail
                refine (inB_any _ _ (by decide) _).mono ?_
                rintro e _ ⟨rfl, rfl⟩
                go_wp2_with fail
                go_round
                case rel => exact ⟨j + 1, by have := HLs.out; omega, by go_num, int_i64 HP2.out.symm, int_i64 HE.out.symm⟩
                case measure => simp [intOf]; omega
              · have HE : Hid (refN x F (j + 1) = N + P - 2 * P) := show _ = _ by rw [HR1.out, if_pos ⟨HLs.out, rfl⟩]
                go_wp2_with fail
                refine (bit_one x q true HB.out _).mono ?_
                rintro e _ ⟨rfl, rfl⟩
                go_wp2_with fail
                refine (inB_any _ _ (by decide) _).mono ?_
                rintro e _ ⟨rfl, rfl⟩
                go_wp2_with fail
                go_round
                case rel => exact ⟨j + 1, by have := HLs.out; omega, by go_num, int_i64 HP2.out.symm, int_i64 HE.out.symm⟩
                case measure => simp [intOf]; omega
            · have hl : ((j : Int) == (pln F : Int) - 1) = false := by rw [beq_eq_false_iff_ne]; omega
              have HE : Hid (refN x F (j + 1) = N + P) := show _ = _ by rw [HR1.out, if_neg (fun c => hlast c.1)]
              clear hlast
              go_wp2_with fail
              refine (bit_one x q true HB.out _).mono ?_
              rintro e _ ⟨rfl, rfl⟩
              go_wp2_with fail
              go_round
              case rel => exact ⟨j + 1, by omega, by go_num, int_i64 HP2.out.symm, int_i64 HE.out.symm⟩
              case measure => simp [intOf]; omega
        · have HE : Hid (refN x F (j + 1) = N) := show _ = _ by rw [HR.out, if_neg (fun c => h0 c.1)]
          go_wp2_with fail
          go_round
          case rel => exact ⟨j + 1, by omega, by go_num, int_i64 HP2.out.symm, int_i64 HE.out.symm⟩
          case measure => simp [intOf]; omega
      · have ej : j = pln F := by omega
        have HJ : Hid (refN x F j = refN x F (pln F)) := show _ = _ by rw [ej]
        obtain ⟨N, hN⟩ : ∃ N : Int, refN x F j = N := ⟨_, rfl⟩
        rw [hN]
        rw [hN] at HJ
        obtain ⟨z0, z1, z2, z3, z4, x0, x1, x2, x3, x4, f0, f1, hB, s0, s1⟩ := HTW.out
        clear ej hN yp
        go_wp2_with fail
        refine bodyPost_ret (by simp [results, Tryz.results36, go_sem, regIf, z0, z1, z2, z3, z4]; exact HJ.out) rfl ⟨rfl, ?_⟩
        exact (((((hB.setCell (Nat.le_succ _) _).setCell (Nat.le_refl _) _).setCell (Nat.le_refl _) _).setCell (Nat.le_refl _) _).setCell (Nat.le_refl _) _).setCell (Nat.le_refl _) _
  · go_enter Tryz.func36, Tryz.ntmps36
    go_wp2_with fail
    refine (rform_to (k : Int) F HF.out _).mono ?_
    rintro e _ ⟨rfl, rfl⟩
    have HT0 : Hid (HeldT w (k : Int) 0 0 0 0 ((w.alloc (.cells #[.int .i64 0, .int .i64 0, .int .i64 0, .int .i64 0, .int .i64 0] 38)).alloc (.cells #[.int .i64 (k : Int), .int .i64 0, .int .i64 0, .int .i64 0, .int .i64 0] 38))) := HeldT.start w (k : Int) 38
    go_wp2_with fail
    refine (inB_any _ _ (by decide) _).mono ?_
    rintro e _ ⟨rfl, rfl⟩
    rw [h1]
    go_wp2_with fail
    refine (inB_any _ _ (by decide) _).mono ?_
    rintro e _ ⟨rfl, rfl⟩
    rw [h2]
    go_wp2_with fail
    refine (rfield_to x 15 5 _).mono ?_
    rintro e v2 ⟨rfl, c2⟩
    have HT2 : Hid (HeldT w (k : Int) 0 0 0 0 v2) := (HT0.out).later c2
    have y0 := HT2.out.x0
    have y1 := HT2.out.x1
    have y2 := HT2.out.x2
    have y3 := HT2.out.x3
    have y4 := HT2.out.x4
    have yf := HT2.out.f1
    go_wp2_with fail
    refine (inB_any _ _ (by decide) _).mono ?_
    rintro e _ ⟨rfl, rfl⟩
    clear y0 y1 y2 y3 y4 yf
    rw [h3]
    go_wp2_with fail
    refine (rplaces_any F H8.out _).mono ?_
    rintro e _ ⟨rfl, rfl⟩
    obtain ⟨W, pb, hW, hpb⟩ : ∃ (W : World) (pb : Nat), W = (v2.setCell ⟨w.heap.size + 1, 2, none⟩ (.int .i64 ((Wd.field x 15 5).toNat : Int))).alloc (.cells (PA F) 3) ∧ pb = (v2.setCell ⟨w.heap.size + 1, 2, none⟩ (.int .i64 ((Wd.field x 15 5).toNat : Int))).heap.size := ⟨_, _, rfl, rfl⟩
    have HTW : Hid (HeldT w (k : Int) 0 ((Wd.field x 15 5).toNat : Int) 0 0 W) := show HeldT _ _ _ _ _ _ _ by rw [hW]; exact (HT2.out.set2 ((Wd.field x 15 5).toNat : Int)).later ((Below.refl _ _).alloc (Nat.le_refl _) _)
    have yp : ∀ j, j < pln F → W.cell? ⟨pb, j, none⟩ = some (.int .i64 ((plc F).getD j 0)) := fun j hj => by
      rw [hW, World.cell?_alloc_at _ _ _ _ hpb]; exact PA_at F j hj
    rw [← hW, ← hpb]
    clear hW hpb
    have hL : pln F ≤ 32 := pln_le F
    have hL21 := pln_le2 F
    go_wp2_with fail
    go_loop [8, 9, 10] (fun n wt i => ∃ j : Nat, j ≤ pln F ∧ i = .int .i64 (j : Int) ∧ wt = .int .i64 (2 ^ j) ∧ n = .int .i64 (refN x F j)) (fun _ _ i => pln F - (intOf i).toNat)
    case atStart => exact ⟨0, Nat.zero_le _, rfl, rfl, rfl⟩
    case round =>
      obtain ⟨j, hj, rfl, rfl, rfl⟩ := hrel
      by_cases hlt : j < pln F
      · have hc := yp j hlt
        have hpr := plc_range F j
        obtain ⟨P, hP, P1, P2⟩ : ∃ P : Int, (2 : Int) ^ j = P ∧ 1 ≤ P ∧ P ≤ 2097152 := pow_in j (by omega)
        obtain ⟨N, hN, N1, N2⟩ : ∃ N : Int, refN x F j = N ∧ -P ≤ N ∧ N < P := ⟨_, rfl, by rw [← hP]; exact (refN_bound x F j).1, by rw [← hP]; exact (refN_bound x F j).2.1⟩
        have hP2 : (2 : Int) ^ (j + 1) = 2 * P := by rw [Int.pow_succ, hP]; omega
        have hR : refN x F (j + 1) = if 0 ≤ (plc F).getD j 0 ∧ x.getLsbD ((plc F).getD j 0).toNat = true then (if j + 1 = pln F ∧ hSg F = true then N + P - 2 * P else N + P) else N := by rw [← hN, ← hP]; rfl
        obtain ⟨pp, hpp⟩ : ∃ pp, (plc F).getD j 0 = pp := ⟨_, rfl⟩
        rw [hpp] at hc hR hpr
        rw [hP, hN]
        rw [← HSG.out] at hR
        have HR : Hid (refN x F (j + 1) = if 0 ≤ pp ∧ x.getLsbD pp.toNat = true then (if j + 1 = pln F ∧ sg = true then N + P - 2 * P else N + P) else N) := hR
        have HP2 : Hid ((2 : Int) ^ (j + 1) = 2 * P) := hP2
        clear hP hN hP2 hR hpp yp
        by_cases h0 : 0 ≤ pp
        · obtain ⟨q, rfl⟩ := Int.eq_ofNat_of_zero_le h0
          cases hb : x.getLsbD q
          · have HE : Hid (refN x F (j + 1) = N) := show _ = _ by rw [HR.out, Int.toNat_natCast, hb, if_neg (by simp)]
            have HB : Hid (x.getLsbD q = false) := hb
            clear hb
            go_wp2_with fail
            refine (bit_one x q false HB.out _).mono ?_
            rintro e _ ⟨rfl, rfl⟩
            go_wp2_with fail
            go_round
            case rel => exact ⟨j + 1, by omega, by go_num, int_i64 HP2.out.symm, int_i64 HE.out.symm⟩
            case measure => simp [intOf]; omega
          · have HB : Hid (x.getLsbD q = true) := hb
            have HR1 : Hid (refN x F (j + 1) = if j + 1 = pln F ∧ sg = true then N + P - 2 * P else N + P) := show _ = _ by rw [HR.out, Int.toNat_natCast, hb, if_pos ⟨h0, rfl⟩]
            clear hb
            by_cases hlast : j + 1 = pln F
            · have hl : ((j : Int) == (pln F : Int) - 1) = true := by rw [beq_iff_eq]; omega
              have q4 := H4.out
              have HLs : Hid (j + 1 = pln F) := hlast
              clear hlast
              cases sg
              · have HE : Hid (refN x F (j + 1) = N + P) := show _ = _ by rw [HR1.out, if_neg (by simp)]
                go_wp2_with fail
                refine (bit_one x q true HB.out _).mono ?_
                rintro e _ ⟨rfl, rfl⟩
                go_wp2_with fail
                refine (inB_any _ _ (by decide) _).mono ?_
                rintro e _ ⟨rfl, rfl⟩
                go_wp2_with fail
                go_round
                case rel => exact ⟨j + 1, by have := HLs.out; omega, by go_num, int_i64 HP2.out.symm, int_i64 HE.out.symm⟩
                case measure => simp [intOf]; omega
              · have HE : Hid (refN x F (j + 1) = N + P - 2 * P) := show _ = _ by rw [HR1.out, if_pos ⟨HLs.out, rfl⟩]
                go_wp2_with fail
                refine (bit_one x q true HB.out _).mono ?_
                rintro e _ ⟨rfl, rfl⟩
                go_wp2_with fail
                refine (inB_any _ _ (by decide) _).mono ?_
                rintro e _ ⟨rfl, rfl⟩
                go_wp2_with fail
                go_round
                case rel => exact ⟨j + 1, by have := HLs.out; omega, by go_num, int_i64 HP2.out.symm, int_i64 HE.out.symm⟩
                case measure => simp [intOf]; omega
            · have hl : ((j : Int) == (pln F : Int) - 1) = false := by rw [beq_eq_false_iff_ne]; omega
              have HE : Hid (refN x F (j + 1) = N + P) := show _ = _ by rw [HR1.out, if_neg (fun c => hlast c.1)]
              clear hlast
              go_wp2_with fail
              refine (bit_one x q true HB.out _).mono ?_
              rintro e _ ⟨rfl, rfl⟩
              go_wp2_with fail
              go_round
              case rel => exact ⟨j + 1, by omega, by go_num, int_i64 HP2.out.symm, int_i64 HE.out.symm⟩
              case measure => simp [intOf]; omega
        · have HE : Hid (refN x F (j + 1) = N) := show _ = _ by rw [HR.out, if_neg (fun c => h0 c.1)]
          go_wp2_with fail
          go_round
          case rel => exact ⟨j + 1, by omega, by go_num, int_i64 HP2.out.symm, int_i64 HE.out.symm⟩
          case measure => simp [intOf]; omega
      · have ej : j = pln F := by omega
        have HJ : Hid (refN x F j = refN x F (pln F)) := show _ = _ by rw [ej]
        obtain ⟨N, hN⟩ : ∃ N : Int, refN x F j = N := ⟨_, rfl⟩
        rw [hN]
        rw [hN] at HJ
        obtain ⟨z0, z1, z2, z3, z4, x0, x1, x2, x3, x4, f0, f1, hB, s0, s1⟩ := HTW.out
        clear ej hN yp
        go_wp2_with fail
        refine bodyPost_ret (by simp [results, Tryz.results36, go_sem, regIf, z0, z1, z2, z3, z4]; exact HJ.out) rfl ⟨rfl, ?_⟩
        exact (((((hB.setCell (Nat.le_succ _) _).setCell (Nat.le_refl _) _).setCell (Nat.le_refl _) _).setCell (Nat.le_refl _) _).setCell (Nat.le_refl _) _).setCell (Nat.le_refl _) _
  · go_enter Tryz.func36, Tryz.ntmps36
    go_wp2_with fail
    refine (rform_to (k : Int) F HF.out _).mono ?_
    rintro e _ ⟨rfl, rfl⟩
    have HT0 : Hid (HeldT w (k : Int) 0 0 0 0 ((w.alloc (.cells #[.int .i64 0, .int .i64 0, .int .i64 0, .int .i64 0, .int .i64 0] 38)).alloc (.cells #[.int .i64 (k : Int), .int .i64 0, .int .i64 0, .int .i64 0, .int .i64 0] 38))) := HeldT.start w (k : Int) 38
    go_wp2_with fail
    refine (inB_any _ _ (by decide) _).mono ?_
    rintro e _ ⟨rfl, rfl⟩
    rw [h1]
    go_wp2_with fail
    refine (inB_any _ _ (by decide) _).mono ?_
    rintro e _ ⟨rfl, rfl⟩
    rw [h2]
    go_wp2_with fail
    refine (rfield_to x 15 5 _).mono ?_
    rintro e v2 ⟨rfl, c2⟩
    have HT2 : Hid (HeldT w (k : Int) 0 0 0 0 v2) := (HT0.out).later c2
    have y0 := HT2.out.x0
    have y1 := HT2.out.x1
    have y2 := HT2.out.x2
    have y3 := HT2.out.x3
    have y4 := HT2.out.x4
    have yf := HT2.out.f1
    go_wp2_with fail
    refine (inB_any _ _ (by decide) _).mono ?_
    rintro e _ ⟨rfl, rfl⟩
    clear y0 y1 y2 y3 y4 yf
    rw [h3]
    go_wp2_with fail
    refine (rfield_to x 20 5 _).mono ?_
    rintro e v3 ⟨rfl, c3⟩
    have HT3 : Hid (HeldT w (k : Int) 0 ((Wd.field x 15 5).toNat : Int) 0 0 v3) := (HT2.out.set2 ((Wd.field x 15 5).toNat : Int)).later c3
    have y0 := HT3.out.x0
    have y1 := HT3.out.x1
    have y2 := HT3.out.x2
    have y3 := HT3.out.x3
    have y4 := HT3.out.x4
    have yf := HT3.out.f1
    go_wp2_with fail
    refine (rplaces_any F H8.out _).mono ?_
    rintro e _ ⟨rfl, rfl⟩
    clear y0 y1 y2 y3 y4 yf
    obtain ⟨W, pb, hW, hpb⟩ : ∃ (W : World) (pb : Nat), W = (v3.setCell ⟨w.heap.size + 1, 3, none⟩ (.int .i64 ((Wd.field x 20 5).toNat : Int))).alloc (.cells (PA F) 3) ∧ pb = (v3.setCell ⟨w.heap.size + 1, 3, none⟩ (.int .i64 ((Wd.field x 20 5).toNat : Int))).heap.size := ⟨_, _, rfl, rfl⟩
    have HTW : Hid (HeldT w (k : Int) 0 ((Wd.field x 15 5).toNat : Int) ((Wd.field x 20 5).toNat : Int) 0 W) := show HeldT _ _ _ _ _ _ _ by rw [hW]; exact (HT3.out.set3 ((Wd.field x 20 5).toNat : Int)).later ((Below.refl _ _).alloc (Nat.le_refl _) _)
    have yp : ∀ j, j < pln F → W.cell? ⟨pb, j, none⟩ = some (.int .i64 ((plc F).getD j 0)) := fun j hj => by
      rw [hW, World.cell?_alloc_at _ _ _ _ hpb]; exact PA_at F j hj
    rw [← hW, ← hpb]
    clear hW hpb
    have hL : pln F ≤ 32 := pln_le F
    have hL21 := pln_le2 F
    go_wp2_with fail
    go_loop [8, 9, 10] (fun n wt i => ∃ j : Nat, j ≤ pln F ∧ i = .int .i64 (j : Int) ∧ wt = .int .i64 (2 ^ j) ∧ n = .int .i64 (refN x F j)) (fun _ _ i => pln F - (intOf i).toNat)
    case atStart => exact ⟨0, Nat.zero_le _, rfl, rfl, rfl⟩
    case round =>
      obtain ⟨j, hj, rfl, rfl, rfl⟩ := hrel
      by_cases hlt : j < pln F
      · have hc := yp j hlt
        have hpr := plc_range F j
        obtain ⟨P, hP, P1, P2⟩ : ∃ P : Int, (2 : Int) ^ j = P ∧ 1 ≤ P ∧ P ≤ 2097152 := pow_in j (by omega)
        obtain ⟨N, hN, N1, N2⟩ : ∃ N : Int, refN x F j = N ∧ -P ≤ N ∧ N < P := ⟨_, rfl, by rw [← hP]; exact (refN_bound x F j).1, by rw [← hP]; exact (refN_bound x F j).2.1⟩
        have hP2 : (2 : Int) ^ (j + 1) = 2 * P := by rw [Int.pow_succ, hP]; omega
        have hR : refN x F (j + 1) = if 0 ≤ (plc F).getD j 0 ∧ x.getLsbD ((plc F).getD j 0).toNat = true then (if j + 1 = pln F ∧ hSg F = true then N + P - 2 * P else N + P) else N := by rw [← hN, ← hP]; rfl
        obtain ⟨pp, hpp⟩ : ∃ pp, (plc F).getD j 0 = pp := ⟨_, rfl⟩
        rw [hpp] at hc hR hpr
        rw [hP, hN]
        rw [← HSG.out] at hR
        have HR : Hid (refN x F (j + 1) = if 0 ≤ pp ∧ x.getLsbD pp.toNat = true then (if j + 1 = pln F ∧ sg = true then N + P - 2 * P else N + P) else N) := hR
        have HP2 : Hid ((2 : Int) ^ (j + 1) = 2 * P) := hP2
        clear hP hN hP2 hR hpp yp
        by_cases h0 : 0 ≤ pp
        · obtain ⟨q, rfl⟩ := Int.eq_ofNat_of_zero_le h0
          cases hb : x.getLsbD q
          · have HE : Hid (refN x F (j + 1) = N) := show _ = _ by rw [HR.out, Int.toNat_natCast, hb, if_neg (by simp)]
            have HB : Hid (x.getLsbD q = false) := hb
            clear hb
            go_wp2_with fail
            refine (bit_one x q false HB.out _).mono ?_
            rintro e _ ⟨rfl, rfl⟩
            go_wp2_with fail
            go_round
            case rel => exact ⟨j + 1, by omega, by go_num, int_i64 HP2.out.symm, int_i64 HE.out.symm⟩
            case measure => simp [intOf]; omega
          · have HB : Hid (x.getLsbD q = true) := hb
            have HR1 : Hid (refN x F (j + 1) = if j + 1 = pln F ∧ sg = true then N + P - 2 * P else N + P) := show _ = _ by rw [HR.out, Int.toNat_natCast, hb, if_pos ⟨h0, rfl⟩]
            clear hb
            by_cases hlast : j + 1 = pln F
            · have hl : ((j : Int) == (pln F : Int) - 1) = true := by rw [beq_iff_eq]; omega
              have q4 := H4.out
              have HLs : Hid (j + 1 = pln F) := hlast
              clear hlast
              cases sg
              · have HE : Hid (refN x F (j + 1) = N + P) := show _ = _ by rw [HR1.out, if_neg (by simp)]
                go_wp2_with fail
                refine (bit_one x q true HB.out _).mono ?_
                rintro e _ ⟨rfl, rfl⟩
                go_wp2_with fail
                refine (inB_any _ _ (by decide) _).mono ?_
                rintro e _ ⟨rfl, rfl⟩
                go_wp2_with fail
                go_round
                case rel => exact ⟨j + 1, by have := HLs.out; omega, by go_num, int_i64 HP2.out.symm, int_i64 HE.out.symm⟩
                case measure => simp [intOf]; omega
              · have HE : Hid (refN x F (j + 1) = N + P - 2 * P) := show _ = _ by rw [HR1.out, if_pos ⟨HLs.out, rfl⟩]
                go_wp2_with fail
                refine (bit_one x q true HB.out _).mono ?_
                rintro e _ ⟨rfl, rfl⟩
                go_wp2_with fail
                refine (inB_any _ _ (by decide) _).mono ?_
                rintro e _ ⟨rfl, rfl⟩
                go_wp2_with fail
                go_round
                case rel => exact ⟨j + 1, by have := HLs.out; omega, by go_num, int_i64 HP2.out.symm, int_i64 HE.out.symm⟩
                case measure => simp [intOf]; omega
            · have hl : ((j : Int) == (pln F : Int) - 1) = false := by rw [beq_eq_false_iff_ne]; omega
              have HE : Hid (refN x F (j + 1) = N + P) := show _ = _ by rw [HR1.out, if_neg (fun c => hlast c.1)]
              clear hlast
              go_wp2_with fail
              refine (bit_one x q true HB.out _).mono ?_
              rintro e _ ⟨rfl, rfl⟩
              go_wp2_with fail
              go_round
              case rel => exact ⟨j + 1, by omega, by go_num, int_i64 HP2.out.symm, int_i64 HE.out.symm⟩
              case measure => simp [intOf]; omega
        · have HE : Hid (refN x F (j + 1) = N) := show _ = _ by rw [HR.out, if_neg (fun c => h0 c.1)]
          go_wp2_with fail
          go_round
          case rel => exact ⟨j + 1, by omega, by go_num, int_i64 HP2.out.symm, int_i64 HE.out.symm⟩
          case measure => simp [intOf]; omega
      · have ej : j = pln F := by omega
        have HJ : Hid (refN x F j = refN x F (pln F)) := show _ = _ by rw [ej]
        obtain ⟨N, hN⟩ : ∃ N : Int, refN x F j = N := ⟨_, rfl⟩
        rw [hN]
        rw [hN] at HJ
        obtain ⟨z0, z1, z2, z3, z4, x0, x1, x2, x3, x4, f0, f1, hB, s0, s1⟩ := HTW.out
        clear ej hN yp
        go_wp2_with fail
        refine bodyPost_ret (by simp [results, Tryz.results36, go_sem, regIf, z0, z1, z2, z3, z4]; exact HJ.out) rfl ⟨rfl, ?_⟩
        exact (((((hB.setCell (Nat.le_succ _) _).setCell (Nat.le_refl _) _).setCell (Nat.le_refl _) _).setCell (Nat.le_refl _) _).setCell (Nat.le_refl _) _).setCell (Nat.le_refl _) _
  · go_enter Tryz.func36, Tryz.ntmps36
    go_wp2_with fail
    refine (rform_to (k : Int) F HF.out _).mono ?_
    rintro e _ ⟨rfl, rfl⟩
    have HT0 : Hid (HeldT w (k : Int) 0 0 0 0 ((w.alloc (.cells #[.int .i64 0, .int .i64 0, .int .i64 0, .int .i64 0, .int .i64 0] 38)).alloc (.cells #[.int .i64 (k : Int), .int .i64 0, .int .i64 0, .int .i64 0, .int .i64 0] 38))) := HeldT.start w (k : Int) 38
    go_wp2_with fail
    refine (inB_any _ _ (by decide) _).mono ?_
    rintro e _ ⟨rfl, rfl⟩
    rw [h1]
    go_wp2_with fail
    refine (rfield_to x 7 5 _).mono ?_
    rintro e v1 ⟨rfl, c1⟩
    have HT1 : Hid (HeldT w (k : Int) 0 0 0 0 v1) := (HT0.out).later c1
    have y0 := HT1.out.x0
    have y1 := HT1.out.x1
    have y2 := HT1.out.x2
    have y3 := HT1.out.x3
    have y4 := HT1.out.x4
    have yf := HT1.out.f1
    go_wp2_with fail
    refine (inB_any _ _ (by decide) _).mono ?_
    rintro e _ ⟨rfl, rfl⟩
    clear y0 y1 y2 y3 y4 yf
    rw [h2]
    go_wp2_with fail
    refine (inB_any _ _ (by decide) _).mono ?_
    rintro e _ ⟨rfl, rfl⟩
    rw [h3]
    go_wp2_with fail
    refine (rplaces_any F H8.out _).mono ?_
    rintro e _ ⟨rfl, rfl⟩
    obtain ⟨W, pb, hW, hpb⟩ : ∃ (W : World) (pb : Nat), W = (v1.setCell ⟨w.heap.size + 1, 1, none⟩ (.int .i64 ((Wd.field x 7 5).toNat : Int))).alloc (.cells (PA F) 3) ∧ pb = (v1.setCell ⟨w.heap.size + 1, 1, none⟩ (.int .i64 ((Wd.field x 7 5).toNat : Int))).heap.size := ⟨_, _, rfl, rfl⟩
    have HTW : Hid (HeldT w (k : Int) ((Wd.field x 7 5).toNat : Int) 0 0 0 W) := show HeldT _ _ _ _ _ _ _ by rw [hW]; exact (HT1.out.set1 ((Wd.field x 7 5).toNat : Int)).later ((Below.refl _ _).alloc (Nat.le_refl _) _)
    have yp : ∀ j, j < pln F → W.cell? ⟨pb, j, none⟩ = some (.int .i64 ((plc F).getD j 0)) := fun j hj => by
      rw [hW, World.cell?_alloc_at _ _ _ _ hpb]; exact PA_at F j hj
    rw [← hW, ← hpb]
    clear hW hpb
    have hL : pln F ≤ 32 := pln_le F
    have hL21 := pln_le2 F
    go_wp2_with fail
    go_loop [8, 9, 10] (fun n wt i => ∃ j : Nat, j ≤ pln F ∧ i = .int .i64 (j : Int) ∧ wt = .int .i64 (2 ^ j) ∧ n = .int .i64 (refN x F j)) (fun _ _ i => pln F - (intOf i).toNat)
    case atStart => exact ⟨0, Nat.zero_le _, rfl, rfl, rfl⟩
    case round =>
      obtain ⟨j, hj, rfl, rfl, rfl⟩ := hrel
      by_cases hlt : j < pln F
      · have hc := yp j hlt
        have hpr := plc_range F j
        obtain ⟨P, hP, P1, P2⟩ : ∃ P : Int, (2 : Int) ^ j = P ∧ 1 ≤ P ∧ P ≤ 2097152 := pow_in j (by omega)
        obtain ⟨N, hN, N1, N2⟩ : ∃ N : Int, refN x F j = N ∧ -P ≤ N ∧ N < P := ⟨_, rfl, by rw [← hP]; exact (refN_bound x F j).1, by rw [← hP]; exact (refN_bound x F j).2.1⟩
        have hP2 : (2 : Int) ^ (j + 1) = 2 * P := by rw [Int.pow_succ, hP]; omega
        have hR : refN x F (j + 1) = if 0 ≤ (plc F).getD j 0 ∧ x.getLsbD ((plc F).getD j 0).toNat = true then (if j + 1 = pln F ∧ hSg F = true then N + P - 2 * P else N + P) else N := by rw [← hN, ← hP]; rfl
        obtain ⟨pp, hpp⟩ : ∃ pp, (plc F).getD j 0 = pp := ⟨_, rfl⟩
        rw [hpp] at hc hR hpr
        rw [hP, hN]
        rw [← HSG.out] at hR
        have HR : Hid (refN x F (j + 1) = if 0 ≤ pp ∧ x.getLsbD pp.toNat = true then (if j + 1 = pln F ∧ sg = true then N + P - 2 * P else N + P) else N) := hR
        have HP2 : Hid ((2 : Int) ^ (j + 1) = 2 * P) := hP2
        clear hP hN hP2 hR hpp yp
        by_cases h0 : 0 ≤ pp
        · obtain ⟨q, rfl⟩ := Int.eq_ofNat_of_zero_le h0
          cases hb : x.getLsbD q
          · have HE : Hid (refN x F (j + 1) = N) := show _ = _ by rw [HR.out, Int.toNat_natCast, hb, if_neg (by simp)]
            have HB : Hid (x.getLsbD q = false) := hb
            clear hb
            go_wp2_with fail
            refine (bit_one x q false HB.out _).mono ?_
            rintro e _ ⟨rfl, rfl⟩
            go_wp2_with fail
            go_round
            case rel => exact ⟨j + 1, by omega, by go_num, int_i64 HP2.out.symm, int_i64 HE.out.symm⟩
            case measure => simp [intOf]; omega
          · have HB : Hid (x.getLsbD q = true) := hb
            have HR1 : Hid (refN x F (j + 1) = if j + 1 = pln F ∧ sg = true then N + P - 2 * P else N + P) := show _ = _ by rw [HR.out, Int.toNat_natCast, hb, if_pos ⟨h0, rfl⟩]
            clear hb
            by_cases hlast : j + 1 = pln F
            · have hl : ((j : Int) == (pln F : Int) - 1) = true := by rw [beq_iff_eq]; omega
              have q4 := H4.out
              have HLs : Hid (j + 1 = pln F) := hlast
              clear hlast
              cases sg
              · have HE : Hid (refN x F (j + 1) = N + P) := show _ = _ by rw [HR1.out, if_neg (by simp)]
                go_wp2_with fail
                refine (bit_one x q true HB.out _).mono ?_
                rintro e _ ⟨rfl, rfl⟩
                go_wp2_with fail
                refine (inB_any _ _ (by decide) _).mono ?_
                rintro e _ ⟨rfl, rfl⟩
                go_wp2_with fail
                go_round
                case rel => exact ⟨j + 1, by have := HLs.out; omega, by go_num, int_i64 HP2.out.symm, int_i64 HE.out.symm⟩
                case measure => simp [intOf]; omega
              · have HE : Hid (refN x F (j + 1) = N + P - 2 * P) := show _ = _ by rw [HR1.out, if_pos ⟨HLs.out, rfl⟩]
                go_wp2_with fail
                refine (bit_one x q true HB.out _).mono ?_
                rintro e _ ⟨rfl, rfl⟩
                go_wp2_with fail
                refine (inB_any _ _ (by decide) _).mono ?_
                rintro e _ ⟨rfl, rfl⟩
                go_wp2_with fail
                go_round
                case rel => exact ⟨j + 1, by have := HLs.out; omega, by go_num, int_i64 HP2.out.symm, int_i64 HE.out.symm⟩
                case measure => simp [intOf]; omega
            · have hl : ((j : Int) == (pln F : Int) - 1) = false := by rw [beq_eq_false_iff_ne]; omega
              have HE : Hid (refN x F (j + 1) = N + P) := show _ = _ by rw [HR1.out, if_neg (fun c => hlast c.1)]
              clear hlast
              go_wp2_with fail
              refine (bit_one x q true HB.out _).mono ?_
              rintro e _ ⟨rfl, rfl⟩
              go_wp2_with fail
              go_round
              case rel => exact ⟨j + 1, by omega, by go_num, int_i64 HP2.out.symm, int_i64 HE.out.symm⟩
              case measure => simp [intOf]; omega
        · have HE : Hid (refN x F (j + 1) = N) := show _ = _ by rw [HR.out, if_neg (fun c => h0 c.1)]
          go_wp2_with fail
          go_round
          case rel => exact ⟨j + 1, by omega, by go_num, int_i64 HP2.out.symm, int_i64 HE.out.symm⟩
          case measure => simp [intOf]; omega
      · have ej : j = pln F := by omega
        have HJ : Hid (refN x F j = refN x F (pln F)) := show _ = _ by rw [ej]
        obtain ⟨N, hN⟩ : ∃ N : Int, refN x F j = N := ⟨_, rfl⟩
        rw [hN]
        rw [hN] at HJ
        obtain ⟨z0, z1, z2, z3, z4, x0, x1, x2, x3, x4, f0, f1, hB, s0, s1⟩ := HTW.out
        clear ej hN yp
        go_wp2_with fail
        refine bodyPost_ret (by simp [results, Tryz.results36, go_sem, regIf, z0, z1, z2, z3, z4]; exact HJ.out) rfl ⟨rfl, ?_⟩
        exact (((((hB.setCell (Nat.le_succ _) _).setCell (Nat.le_refl _) _).setCell (Nat.le_refl _) _).setCell (Nat.le_refl _) _).setCell (Nat.le_refl _) _).setCell (Nat.le_refl _) _
  · go_enter Tryz.func36, Tryz.ntmps36
    go_wp2_with fail
    refine (rform_to (k : Int) F HF.out _).mono ?_
    rintro e _ ⟨rfl, rfl⟩
    have HT0 : Hid (HeldT w (k : Int) 0 0 0 0 ((w.alloc (.cells #[.int .i64 0, .int .i64 0, .int .i64 0, .int .i64 0, .int .i64 0] 38)).alloc (.cells #[.int .i64 (k : Int), .int .i64 0, .int .i64 0, .int .i64 0, .int .i64 0] 38))) := HeldT.start w (k : Int) 38
    go_wp2_with fail
    refine (inB_any _ _ (by decide) _).mono ?_
    rintro e _ ⟨rfl, rfl⟩
    rw [h1]
    go_wp2_with fail
    refine (rfield_to x 7 5 _).mono ?_
    rintro e v1 ⟨rfl, c1⟩
    have HT1 : Hid (HeldT w (k : Int) 0 0 0 0 v1) := (HT0.out).later c1
    have y0 := HT1.out.x0
    have y1 := HT1.out.x1
    have y2 := HT1.out.x2
    have y3 := HT1.out.x3
    have y4 := HT1.out.x4
    have yf := HT1.out.f1
    go_wp2_with fail
    refine (inB_any _ _ (by decide) _).mono ?_
    rintro e _ ⟨rfl, rfl⟩
    clear y0 y1 y2 y3 y4 yf
    rw [h2]
    go_wp2_with fail
    refine (inB_any _ _ (by decide) _).mono ?_
    rintro e _ ⟨rfl, rfl⟩
    rw [h3]
    go_wp2_with fail
    refine (rfield_to x 20 5 _).mono ?_
    rintro e v3 ⟨rfl, c3⟩
    have HT3 : Hid (HeldT w (k : Int) ((Wd.field x 7 5).toNat : Int) 0 0 0 v3) := (HT1.out.set1 ((Wd.field x 7 5).toNat : Int)).later c3
    have y0 := HT3.out.x0
    have y1 := HT3.out.x1
    have y2 := HT3.out.x2
    have y3 := HT3.out.x3
    have y4 := HT3.out.x4
    have yf := HT3.out.f1
    go_wp2_with fail
    refine (rplaces_any F H8.out _).mono ?_
    rintro e _ ⟨rfl, rfl⟩
    clear y0 y1 y2 y3 y4 yf
    obtain ⟨W, pb, hW, hpb⟩ : ∃ (W : World) (pb : Nat), W = (v3.setCell ⟨w.heap.size + 1, 3, none⟩ (.int .i64 ((Wd.field x 20 5).toNat : Int))).alloc (.cells (PA F) 3) ∧ pb = (v3.setCell ⟨w.heap.size + 1, 3, none⟩ (.int .i64 ((Wd.field x 20 5).toNat : Int))).heap.size := ⟨_, _, rfl, rfl⟩
    have HTW : Hid (HeldT w (k : Int) ((Wd.field x 7 5).toNat : Int) 0 ((Wd.field x 20 5).toNat : Int) 0 W) := show HeldT _ _ _ _ _ _ _ by rw [hW]; exact (HT3.out.set3 ((Wd.field x 20 5).toNat : Int)).later ((Below.refl _ _).alloc (Nat.le_refl _) _)
    have yp : ∀ j, j < pln F → W.cell? ⟨pb, j, none⟩ = some (.int .i64 ((plc F).getD j 0)) := fun j hj => by
      rw [hW, World.cell?_alloc_at _ _ _ _ hpb]; exact PA_at F j hj
    rw [← hW, ← hpb]
    clear hW hpb
    have hL : pln F ≤ 32 := pln_le F
    have hL21 := pln_le2 F
    go_wp2_with fail
    go_loop [8, 9, 10] (fun n wt i => ∃ j : Nat, j ≤ pln F ∧ i = .int .i64 (j : Int) ∧ wt = .int .i64 (2 ^ j) ∧ n = .int .i64 (refN x F j)) (fun _ _ i => pln F - (intOf i).toNat)
    case atStart => exact ⟨0, Nat.zero_le _, rfl, rfl, rfl⟩
    case round =>
      obtain ⟨j, hj, rfl, rfl, rfl⟩ := hrel
      by_cases hlt : j < pln F
      · have hc := yp j hlt
        have hpr := plc_range F j
        obtain ⟨P, hP, P1, P2⟩ : ∃ P : Int, (2 : Int) ^ j = P ∧ 1 ≤ P ∧ P ≤ 2097152 := pow_in j (by omega)
        obtain ⟨N, hN, N1, N2⟩ : ∃ N : Int, refN x F j = N ∧ -P ≤ N ∧ N < P := ⟨_, rfl, by rw [← hP]; exact (refN_bound x F j).1, by rw [← hP]; exact (refN_bound x F j).2.1⟩
        have hP2 : (2 : Int) ^ (j + 1) = 2 * P := by rw [Int.pow_succ, hP]; omega
        have hR : refN x F (j + 1) = if 0 ≤ (plc F).getD j 0 ∧ x.getLsbD ((plc F).getD j 0).toNat = true then (if j + 1 = pln F ∧ hSg F = true then N + P - 2 * P else N + P) else N := by rw [← hN, ← hP]; rfl
        obtain ⟨pp, hpp⟩ : ∃ pp, (plc F).getD j 0 = pp := ⟨_, rfl⟩
        rw [hpp] at hc hR hpr
        rw [hP, hN]
        rw [← HSG.out] at hR
        have HR : Hid (refN x F (j + 1) = if 0 ≤ pp ∧ x.getLsbD pp.toNat = true then (if j + 1 = pln F ∧ sg = true then N + P - 2 * P else N + P) else N) := hR
        have HP2 : Hid ((2 : Int) ^ (j + 1) = 2 * P) := hP2
        clear hP hN hP2 hR hpp yp
        by_cases h0 : 0 ≤ pp
        · obtain ⟨q, rfl⟩ := Int.eq_ofNat_of_zero_le h0
          cases hb : x.getLsbD q
          · have HE : Hid (refN x F (j + 1) = N) := show _ = _ by rw [HR.out, Int.toNat_natCast, hb, if_neg (by simp)]
            have HB : Hid (x.getLsbD q = false) := hb
            clear hb
            go_wp2_with fail
            refine (bit_one x q false HB.out _).mono ?_
            rintro e _ ⟨rfl, rfl⟩
            go_wp2_with fail
            go_round
            case rel => exact ⟨j + 1, by omega, by go_num, int_i64 HP2.out.symm, int_i64 HE.out.symm⟩
            case measure => simp [intOf]; omega
          · have HB : Hid (x.getLsbD q = true) := hb
            have HR1 : Hid (refN x F (j + 1) = if j + 1 = pln F ∧ sg = true then N + P - 2 * P else N + P) := show _ = _ by rw [HR.out, Int.toNat_natCast, hb, if_pos ⟨h0, rfl⟩]
            clear hb
            by_cases hlast : j + 1 = pln F
            · have hl : ((j : Int) == (pln F : Int) - 1) = true := by rw [beq_iff_eq]; omega
              have q4 := H4.out
              have HLs : Hid (j + 1 = pln F) := hlast
              clear hlast
              cases sg
              · have HE : Hid (refN x F (j + 1) = N + P) := show _ = _ by rw [HR1.out, if_neg (by simp)]
                go_wp2_with fail
                refine (bit_one x q true HB.out _).mono ?_
                rintro e _ ⟨rfl, rfl⟩
                go_wp2_with fail
                refine (inB_any _ _ (by decide) _).mono ?_
                rintro e _ ⟨rfl, rfl⟩
                go_wp2_with fail
                go_round
                case rel => exact ⟨j + 1, by have := HLs.out; omega, by go_num, int_i64 HP2.out.symm, int_i64 HE.out.symm⟩
                case measure => simp [intOf]; omega
              · have HE : Hid (refN x F (j + 1) = N + P - 2 * P) := show _ = _ by rw [HR1.out, if_pos ⟨HLs.out, rfl⟩]
                go_wp2_with fail
                refine (bit_one x q true HB.out _).mono ?_
                rintro e _ ⟨rfl, rfl⟩
                go_wp2_with fail
                refine (inB_any _ _ (by decide) _).mono ?_
                rintro e _ ⟨rfl, rfl⟩
                go_wp2_with fail
                go_round
                case rel => exact ⟨j + 1, by have := HLs.out; omega, by go_num, int_i64 HP2.out.symm, int_i64 HE.out.symm⟩
                case measure => simp [intOf]; omega
            · have hl : ((j : Int) == (pln F : Int) - 1) = false := by rw [beq_eq_false_iff_ne]; omega
              have HE : Hid (refN x F (j + 1) = N + P) := show _ = _ by rw [HR1.out, if_neg (fun c => hlast c.1)]
              clear hlast
              go_wp2_with fail
              refine (bit_one x q true HB.out _).mono ?_
              rintro e _ ⟨rfl, rfl⟩
              go_wp2_with fail
              go_round
              case rel => exact ⟨j + 1, by omega, by go_num, int_i64 HP2.out.symm, int_i64 HE.out.symm⟩
              case measure => simp [intOf]; omega
        · have HE : Hid (refN x F (j + 1) = N) := show _ = _ by rw [HR.out, if_neg (fun c => h0 c.1)]
          go_wp2_with fail
          go_round
          case rel => exact ⟨j + 1, by omega, by go_num, int_i64 HP2.out.symm, int_i64 HE.out.symm⟩
          case measure => simp [intOf]; omega
      · have ej : j = pln F := by omega
        have HJ : Hid (refN x F j = refN x F (pln F)) := show _ = _ by rw [ej]
        obtain ⟨N, hN⟩ : ∃ N : Int, refN x F j = N := ⟨_, rfl⟩
        rw [hN]
        rw [hN] at HJ
        obtain ⟨z0, z1, z2, z3, z4, x0, x1, x2, x3, x4, f0, f1, hB, s0, s1⟩ := HTW.out
        clear ej hN yp
        go_wp2_with fail
        refine bodyPost_ret (by simp [results, Tryz.results36, go_sem, regIf, z0, z1, z2, z3, z4]; exact HJ.out) rfl ⟨rfl, ?_⟩
        exact (((((hB.setCell (Nat.le_succ _) _).setCell (Nat.le_refl _) _).setCell (Nat.le_refl _) _).setCell (Nat.le_refl _) _).setCell (Nat.le_refl _) _).setCell (Nat.le_refl _) _
  · go_enter Tryz.func36, Tryz.ntmps36
    go_wp2_with fail
    refine (rform_to (k : Int) F HF.out _).mono ?_
    rintro e _ ⟨rfl, rfl⟩
    have HT0 : Hid (HeldT w (k : Int) 0 0 0 0 ((w.alloc (.cells #[.int .i64 0, .int .i64 0, .int .i64 0, .int .i64 0, .int .i64 0] 38)).alloc (.cells #[.int .i64 (k : Int), .int .i64 0, .int .i64 0, .int .i64 0, .int .i64 0] 38))) := HeldT.start w (k : Int) 38
    go_wp2_with fail
    refine (inB_any _ _ (by decide) _).mono ?_
    rintro e _ ⟨rfl, rfl⟩
    rw [h1]
    go_wp2_with fail
    refine (rfield_to x 7 5 _).mono ?_
    rintro e v1 ⟨rfl, c1⟩
    have HT1 : Hid (HeldT w (k : Int) 0 0 0 0 v1) := (HT0.out).later c1
    have y0 := HT1.out.x0
    have y1 := HT1.out.x1
    have y2 := HT1.out.x2
    have y3 := HT1.out.x3
    have y4 := HT1.out.x4
    have yf := HT1.out.f1
    go_wp2_with fail
    refine (inB_any _ _ (by decide) _).mono ?_
    rintro e _ ⟨rfl, rfl⟩
    clear y0 y1 y2 y3 y4 yf
    rw [h2]
    go_wp2_with fail
    refine (rfield_to x 15 5 _).mono ?_
    rintro e v2 ⟨rfl, c2⟩
    have HT2 : Hid (HeldT w (k : Int) ((Wd.field x 7 5).toNat : Int) 0 0 0 v2) := (HT1.out.set1 ((Wd.field x 7 5).toNat : Int)).later c2
    have y0 := HT2.out.x0
    have y1 := HT2.out.x1
    have y2 := HT2.out.x2
    have y3 := HT2.out.x3
    have y4 := HT2.out.x4
    have yf := HT2.out.f1
    go_wp2_with fail
    refine (inB_any _ _ (by decide) _).mono ?_
    rintro e _ ⟨rfl, rfl⟩
    clear y0 y1 y2 y3 y4 yf
    rw [h3]
    go_wp2_with fail
    refine (rplaces_any F H8.out _).mono ?_
    rintro e _ ⟨rfl, rfl⟩
    obtain ⟨W, pb, hW, hpb⟩ : ∃ (W : World) (pb : Nat), W = (v2.setCell ⟨w.heap.size + 1, 2, none⟩ (.int .i64 ((Wd.field x 15 5).toNat : Int))).alloc (.cells (PA F) 3) ∧ pb = (v2.setCell ⟨w.heap.size + 1, 2, none⟩ (.int .i64 ((Wd.field x 15 5).toNat : Int))).heap.size := ⟨_, _, rfl, rfl⟩
    have HTW : Hid (HeldT w (k : Int) ((Wd.field x 7 5).toNat : Int) ((Wd.field x 15 5).toNat : Int) 0 0 W) := show HeldT _ _ _ _ _ _ _ by rw [hW]; exact (HT2.out.set2 ((Wd.field x 15 5).toNat : Int)).later ((Below.refl _ _).alloc (Nat.le_refl _) _)
    have yp : ∀ j, j < pln F → W.cell? ⟨pb, j, none⟩ = some (.int .i64 ((plc F).getD j 0)) := fun j hj => by
      rw [hW, World.cell?_alloc_at _ _ _ _ hpb]; exact PA_at F j hj
    rw [← hW, ← hpb]
    clear hW hpb
    have hL : pln F ≤ 32 := pln_le F
    have hL21 := pln_le2 F
    go_wp2_with fail
    go_loop [8, 9, 10] (fun n wt i => ∃ j : Nat, j ≤ pln F ∧ i = .int .i64 (j : Int) ∧ wt = .int .i64 (2 ^ j) ∧ n = .int .i64 (refN x F j)) (fun _ _ i => pln F - (intOf i).toNat)
    case atStart => exact ⟨0, Nat.zero_le _, rfl, rfl, rfl⟩
    case round =>
      obtain ⟨j, hj, rfl, rfl, rfl⟩ := hrel
      by_cases hlt : j < pln F
      · have hc := yp j hlt
        have hpr := plc_range F j
        obtain ⟨P, hP, P1, P2⟩ : ∃ P : Int, (2 : Int) ^ j = P ∧ 1 ≤ P ∧ P ≤ 2097152 := pow_in j (by omega)
        obtain ⟨N, hN, N1, N2⟩ : ∃ N : Int, refN x F j = N ∧ -P ≤ N ∧ N < P := ⟨_, rfl, by rw [← hP]; exact (refN_bound x F j).1, by rw [← hP]; exact (refN_bound x F j).2.1⟩
        have hP2 : (2 : Int) ^ (j + 1) = 2 * P := by rw [Int.pow_succ, hP]; omega
        have hR : refN x F (j + 1) = if 0 ≤ (plc F).getD j 0 ∧ x.getLsbD ((plc F).getD j 0).toNat = true then (if j + 1 = pln F ∧ hSg F = true then N + P - 2 * P else N + P) else N := by rw [← hN, ← hP]; rfl
        obtain ⟨pp, hpp⟩ : ∃ pp, (plc F).getD j 0 = pp := ⟨_, rfl⟩
        rw [hpp] at hc hR hpr
        rw [hP, hN]
        rw [← HSG.out] at hR
        have HR : Hid (refN x F (j + 1) = if 0 ≤ pp ∧ x.getLsbD pp.toNat = true then (if j + 1 = pln F ∧ sg = true then N + P - 2 * P else N + P) else N) := hR
        have HP2 : Hid ((2 : Int) ^ (j + 1) = 2 * P) := hP2
        clear hP hN hP2 hR hpp yp
        by_cases h0 : 0 ≤ pp
        · obtain ⟨q, rfl⟩ := Int.eq_ofNat_of_zero_le h0
          cases hb : x.getLsbD q
          · have HE : Hid (refN x F (j + 1) = N) := show _ = _ by rw [HR.out, Int.toNat_natCast, hb, if_neg (by simp)]
            have HB : Hid (x.getLsbD q = false) := hb
            clear hb
            go_wp2_with fail
            refine (bit_one x q false HB.out _).mono ?_
            rintro e _ ⟨rfl, rfl⟩
            go_wp2_with fail
            go_round
            case rel => exact ⟨j + 1, by omega, by go_num, int_i64 HP2.out.symm, int_i64 HE.out.symm⟩
            case measure => simp [intOf]; omega
          · have HB : Hid (x.getLsbD q = true) := hb
            have HR1 : Hid (refN x F (j + 1) = if j + 1 = pln F ∧ sg = true then N + P - 2 * P else N + P) := show _ = _ by rw [HR.out, Int.toNat_natCast, hb, if_pos ⟨h0, rfl⟩]
            clear hb
            by_cases hlast : j + 1 = pln F
            · have hl : ((j : Int) == (pln F : Int) - 1) = true := by rw [beq_iff_eq]; omega
              have q4 := H4.out
              have HLs : Hid (j + 1 = pln F) := hlast
              clear hlast
              cases sg
              · have HE : Hid (refN x F (j + 1) = N + P) := show _ = _ by rw [HR1.out, if_neg (by simp)]
                go_wp2_with fail
                refine (bit_one x q true HB.out _).mono ?_
                rintro e _ ⟨rfl, rfl⟩
                go_wp2_with fail
                refine (inB_any _ _ (by decide) _).mono ?_
                rintro e _ ⟨rfl, rfl⟩
                go_wp2_with fail
                go_round
                case rel => exact ⟨j + 1, by have := HLs.out; omega, by go_num, int_i64 HP2.out.symm, int_i64 HE.out.symm⟩
                case measure => simp [intOf]; omega
              · have HE : Hid (refN x F (j + 1) = N + P - 2 * P) := show _ = _ by rw [HR1.out, if_pos ⟨HLs.out, rfl⟩]
                go_wp2_with fail
                refine (bit_one x q true HB.out _).mono ?_
                rintro e _ ⟨rfl, rfl⟩
                go_wp2_with fail
                refine (inB_any _ _ (by decide) _).mono ?_
                rintro e _ ⟨rfl, rfl⟩
                go_wp2_with fail
                go_round
                case rel => exact ⟨j + 1, by have := HLs.out; omega, by go_num, int_i64 HP2.out.symm, int_i64 HE.out.symm⟩
                case measure => simp [intOf]; omega
            · have hl : ((j : Int) == (pln F : Int) - 1) = false := by rw [beq_eq_false_iff_ne]; omega
              have HE : Hid (refN x F (j + 1) = N + P) := show _ = _ by rw [HR1.out, if_neg (fun c => hlast c.1)]
              clear hlast
              go_wp2_with fail
              refine (bit_one x q true HB.out _).mono ?_
              rintro e _ ⟨rfl, rfl⟩
              go_wp2_with fail
              go_round
              case rel => exact ⟨j + 1, by omega, by go_num, int_i64 HP2.out.symm, int_i64 HE.out.symm⟩
              case measure => simp [intOf]; omega
        · have HE : Hid (refN x F (j + 1) = N) := show _ = _ by rw [HR.out, if_neg (fun c => h0 c.1)]
          go_wp2_with fail
          go_round
          case rel => exact ⟨j + 1, by omega, by go_num, int_i64 HP2.out.symm, int_i64 HE.out.symm⟩
          case measure => simp [intOf]; omega
      · have ej : j = pln F := by omega
        have HJ : Hid (refN x F j = refN x F (pln F)) := show _ = _ by rw [ej]
        obtain ⟨N, hN⟩ : ∃ N : Int, refN x F j = N := ⟨_, rfl⟩
        rw [hN]
        rw [hN] at HJ
        obtain ⟨z0, z1, z2, z3, z4, x0, x1, x2, x3, x4, f0, f1, hB, s0, s1⟩ := HTW.out
        clear ej hN yp
        go_wp2_with fail
        refine bodyPost_ret (by simp [results, Tryz.results36, go_sem, regIf, z0, z1, z2, z3, z4]; exact HJ.out) rfl ⟨rfl, ?_⟩
        exact (((((hB.setCell (Nat.le_succ _) _).setCell (Nat.le_refl _) _).setCell (Nat.le_refl _) _).setCell (Nat.le_refl _) _).setCell (Nat.le_refl _) _).setCell (Nat.le_refl _) _
  · go_enter Tryz.func36, Tryz.ntmps36
    go_wp2_with fail
    refine (rform_to (k : Int) F HF.out _).mono ?_
    rintro e _ ⟨rfl, rfl⟩
    have HT0 : Hid (HeldT w (k : Int) 0 0 0 0 ((w.alloc (.cells #[.int .i64 0, .int .i64 0, .int .i64 0, .int .i64 0, .int .i64 0] 38)).alloc (.cells #[.int .i64 (k : Int), .int .i64 0, .int .i64 0, .int .i64 0, .int .i64 0] 38))) := HeldT.start w (k : Int) 38
    go_wp2_with fail
    refine (inB_any _ _ (by decide) _).mono ?_
    rintro e _ ⟨rfl, rfl⟩
    rw [h1]
    go_wp2_with fail
    refine (rfield_to x 7 5 _).mono ?_
    rintro e v1 ⟨rfl, c1⟩
    have HT1 : Hid (HeldT w (k : Int) 0 0 0 0 v1) := (HT0.out).later c1
    have y0 := HT1.out.x0
    have y1 := HT1.out.x1
    have y2 := HT1.out.x2
    have y3 := HT1.out.x3
    have y4 := HT1.out.x4
    have yf := HT1.out.f1
    go_wp2_with fail
    refine (inB_any _ _ (by decide) _).mono ?_
    rintro e _ ⟨rfl, rfl⟩
    clear y0 y1 y2 y3 y4 yf
    rw [h2]
    go_wp2_with fail
    refine (rfield_to x 15 5 _).mono ?_
    rintro e v2 ⟨rfl, c2⟩
    have HT2 : Hid (HeldT w (k : Int) ((Wd.field x 7 5).toNat : Int) 0 0 0 v2) := (HT1.out.set1 ((Wd.field x 7 5).toNat : Int)).later c2
    have y0 := HT2.out.x0
    have y1 := HT2.out.x1
    have y2 := HT2.out.x2
    have y3 := HT2.out.x3
    have y4 := HT2.out.x4
    have yf := HT2.out.f1
    go_wp2_with fail
    refine (inB_any _ _ (by decide) _).mono ?_
    rintro e _ ⟨rfl, rfl⟩
    clear y0 y1 y2 y3 y4 yf
    rw [h3]
    go_wp2_with fail
    refine (rfield_to x 20 5 _).mono ?_
    rintro e v3 ⟨rfl, c3⟩
    have HT3 : Hid (HeldT w (k : Int) ((Wd.field x 7 5).toNat : Int) ((Wd.field x 15 5).toNat : Int) 0 0 v3) := (HT2.out.set2 ((Wd.field x 15 5).toNat : Int)).later c3
    have y0 := HT3.out.x0
    have y1 := HT3.out.x1
    have y2 := HT3.out.x2
    have y3 := HT3.out.x3
    have y4 := HT3.out.x4
    have yf := HT3.out.f1
    go_wp2_with fail
    refine (rplaces_any F H8.out _).mono ?_
    rintro e _ ⟨rfl, rfl⟩
    clear y0 y1 y2 y3 y4 yf
    obtain ⟨W, pb, hW, hpb⟩ : ∃ (W : World) (pb : Nat), W = (v3.setCell ⟨w.heap.size + 1, 3, none⟩ (.int .i64 ((Wd.field x 20 5).toNat : Int))).alloc (.cells (PA F) 3) ∧ pb = (v3.setCell ⟨w.heap.size + 1, 3, none⟩ (.int .i64 ((Wd.field x 20 5).toNat : Int))).heap.size := ⟨_, _, rfl, rfl⟩
    have HTW : Hid (HeldT w (k : Int) ((Wd.field x 7 5).toNat : Int) ((Wd.field x 15 5).toNat : Int) ((Wd.field x 20 5).toNat : Int) 0 W) := show HeldT _ _ _ _ _ _ _ by rw [hW]; exact (HT3.out.set3 ((Wd.field x 20 5).toNat : Int)).later ((Below.refl _ _).alloc (Nat.le_refl _) _)
    have yp : ∀ j, j < pln F → W.cell? ⟨pb, j, none⟩ = some (.int .i64 ((plc F).getD j 0)) := fun j hj => by
      rw [hW, World.cell?_alloc_at _ _ _ _ hpb]; exact PA_at F j hj
    rw [← hW, ← hpb]
    clear hW hpb
    have hL : pln F ≤ 32 := pln_le F
    have hL21 := pln_le2 F
    go_wp2_with fail
    go_loop [8, 9, 10] (fun n wt i => ∃ j : Nat, j ≤ pln F ∧ i = .int .i64 (j : Int) ∧ wt = .int .i64 (2 ^ j) ∧ n = .int .i64 (refN x F j)) (fun _ _ i => pln F - (intOf i).toNat)
    case atStart => exact ⟨0, Nat.zero_le _, rfl, rfl, rfl⟩
    case round =>
      obtain ⟨j, hj, rfl, rfl, rfl⟩ := hrel
      by_cases hlt : j < pln F
      · have hc := yp j hlt
        have hpr := plc_range F j
        obtain ⟨P, hP, P1, P2⟩ : ∃ P : Int, (2 : Int) ^ j = P ∧ 1 ≤ P ∧ P ≤ 2097152 := pow_in j (by omega)
        obtain ⟨N, hN, N1, N2⟩ : ∃ N : Int, refN x F j = N ∧ -P ≤ N ∧ N < P := ⟨_, rfl, by rw [← hP]; exact (refN_bound x F j).1, by rw [← hP]; exact (refN_bound x F j).2.1⟩
        have hP2 : (2 : Int) ^ (j + 1) = 2 * P := by rw [Int.pow_succ, hP]; omega
        have hR : refN x F (j + 1) = if 0 ≤ (plc F).getD j 0 ∧ x.getLsbD ((plc F).getD j 0).toNat = true then (if j + 1 = pln F ∧ hSg F = true then N + P - 2 * P else N + P) else N := by rw [← hN, ← hP]; rfl
        obtain ⟨pp, hpp⟩ : ∃ pp, (plc F).getD j 0 = pp := ⟨_, rfl⟩
        rw [hpp] at hc hR hpr
        rw [hP, hN]
        rw [← HSG.out] at hR
        have HR : Hid (refN x F (j + 1) = if 0 ≤ pp ∧ x.getLsbD pp.toNat = true then (if j + 1 = pln F ∧ sg = true then N + P - 2 * P else N + P) else N) := hR
        have HP2 : Hid ((2 : Int) ^ (j + 1) = 2 * P) := hP2
        clear hP hN hP2 hR hpp yp
        by_cases h0 : 0 ≤ pp
        · obtain ⟨q, rfl⟩ := Int.eq_ofNat_of_zero_le h0
          cases hb : x.getLsbD q
          · have HE : Hid (refN x F (j + 1) = N) := show _ = _ by rw [HR.out, Int.toNat_natCast, hb, if_neg (by simp)]
            have HB : Hid (x.getLsbD q = false) := hb
            clear hb
            go_wp2_with fail
            refine (bit_one x q false HB.out _).mono ?_
            rintro e _ ⟨rfl, rfl⟩
            go_wp2_with fail
            go_round
            case rel => exact ⟨j + 1, by omega, by go_num, int_i64 HP2.out.symm, int_i64 HE.out.symm⟩
            case measure => simp [intOf]; omega
          · have HB : Hid (x.getLsbD q = true) := hb
            have HR1 : Hid (refN x F (j + 1) = if j + 1 = pln F ∧ sg = true then N + P - 2 * P else N + P) := show _ = _ by rw [HR.out, Int.toNat_natCast, hb, if_pos ⟨h0, rfl⟩]
            clear hb
            by_cases hlast : j + 1 = pln F
            · have hl : ((j : Int) == (pln F : Int) - 1) = true := by rw [beq_iff_eq]; omega
              have q4 := H4.out
              have HLs : Hid (j + 1 = pln F) := hlast
              clear hlast
              cases sg
              · have HE : Hid (refN x F (j + 1) = N + P) := show _ = _ by rw [HR1.out, if_neg (by simp)]
                go_wp2_with fail
                refine (bit_one x q true HB.out _).mono ?_
                rintro e _ ⟨rfl, rfl⟩
                go_wp2_with fail
                refine (inB_any _ _ (by decide) _).mono ?_
                rintro e _ ⟨rfl, rfl⟩
                go_wp2_with fail
                go_round
                case rel => exact ⟨j + 1, by have := HLs.out; omega, by go_num, int_i64 HP2.out.symm, int_i64 HE.out.symm⟩
                case measure => simp [intOf]; omega
              · have HE : Hid (refN x F (j + 1) = N + P - 2 * P) := show _ = _ by rw [HR1.out, if_pos ⟨HLs.out, rfl⟩]
                go_wp2_with fail
                refine (bit_one x q true HB.out _).mono ?_
                rintro e _ ⟨rfl, rfl⟩
                go_wp2_with fail
                refine (inB_any _ _ (by decide) _).mono ?_
                rintro e _ ⟨rfl, rfl⟩
                go_wp2_with fail
                go_round
                case rel => exact ⟨j + 1, by have := HLs.out; omega, by go_num, int_i64 HP2.out.symm, int_i64 HE.out.symm⟩
                case measure => simp [intOf]; omega
            · have hl : ((j : Int) == (pln F : Int) - 1) = false := by rw [beq_eq_false_iff_ne]; omega
              have HE : Hid (refN x F (j + 1) = N + P) := show _ = _ by rw [HR1.out, if_neg (fun c => hlast c.1)]
              clear hlast
              go_wp2_with fail
              refine (bit_one x q true HB.out _).mono ?_
              rintro e _ ⟨rfl, rfl⟩
              go_wp2_with fail
              go_round
              case rel => exact ⟨j + 1, by omega, by go_num, int_i64 HP2.out.symm, int_i64 HE.out.symm⟩
              case measure => simp [intOf]; omega
        · have HE : Hid (refN x F (j + 1) = N) := show _ = _ by rw [HR.out, if_neg (fun c => h0 c.1)]
          go_wp2_with fail
          go_round
          case rel => exact ⟨j + 1, by omega, by go_num, int_i64 HP2.out.symm, int_i64 HE.out.symm⟩
          case measure => simp [intOf]; omega
      · have ej : j = pln F := by omega
        have HJ : Hid (refN x F j = refN x F (pln F)) := show _ = _ by rw [ej]
        obtain ⟨N, hN⟩ : ∃ N : Int, refN x F j = N := ⟨_, rfl⟩
        rw [hN]
        rw [hN] at HJ
        obtain ⟨z0, z1, z2, z3, z4, x0, x1, x2, x3, x4, f0, f1, hB, s0, s1⟩ := HTW.out
        clear ej hN yp
        go_wp2_with fail
        refine bodyPost_ret (by simp [results, Tryz.results36, go_sem, regIf, z0, z1, z2, z3, z4]; exact HJ.out) rfl ⟨rfl, ?_⟩
        exact (((((hB.setCell (Nat.le_succ _) _).setCell (Nat.le_refl _) _).setCell (Nat.le_refl _) _).setCell (Nat.le_refl _) _).setCell (Nat.le_refl _) _).setCell (Nat.le_refl _) _
end Go.Proofs.YtcffpmicencfpabGreat
