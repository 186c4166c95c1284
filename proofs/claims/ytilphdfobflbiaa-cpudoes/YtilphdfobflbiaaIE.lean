/-
  Contract of package inst's Right: whether an instruction may be.
-/
import Derived.Test.YtilphdfobflbiaaIH
import Derived.Deep.RegionHeld3
namespace Go.Proofs.Ytilphdfobflbiaa
open Go.RowKit Ip

/-- A world in which an instruction's box and the box of what its form has hold what they held, and all that was there is as it was. -/
def HeldR (w : World) (B : Nat) (op rd rs1 rs2 imm : Int) (b1 b2 b3 : Bool) (w' : World) : Prop :=
  w'.cell? ⟨w.heap.size, 0, none⟩ = some (.int .i64 op) ∧ w'.cell? ⟨w.heap.size, 1, none⟩ = some (.int .i64 rd) ∧ w'.cell? ⟨w.heap.size, 2, none⟩ = some (.int .i64 rs1) ∧ w'.cell? ⟨w.heap.size, 3, none⟩ = some (.int .i64 rs2) ∧ w'.cell? ⟨w.heap.size, 4, none⟩ = some (.int .i64 imm)
  ∧ w'.cell? ⟨B, 0, none⟩ = some (.bool b1) ∧ w'.cell? ⟨B, 1, none⟩ = some (.bool b2) ∧ w'.cell? ⟨B, 2, none⟩ = some (.bool b3) ∧ Below w.heap.size w w' ∧ w.heap.size < w'.heap.size ∧ B < w'.heap.size
theorem HeldR.below {w : World} {B : Nat} {op rd rs1 rs2 imm : Int} {b1 b2 b3 : Bool} {W w1 : World} (h : HeldR w B op rd rs1 rs2 imm b1 b2 b3 W) (hb : Below W.heap.size W w1) : HeldR w B op rd rs1 rs2 imm b1 b2 b3 w1 := by
  obtain ⟨h0, h1, h2, h3, h4, g0, g1, g2, hB, hs, ht⟩ := h
  obtain ⟨hc, _⟩ := bcell hb
  exact ⟨(hc _ _ hs).trans h0, (hc _ _ hs).trans h1, (hc _ _ hs).trans h2, (hc _ _ hs).trans h3, (hc _ _ hs).trans h4, (hc _ _ ht).trans g0, (hc _ _ ht).trans g1, (hc _ _ ht).trans g2,
    hB.trans (hb.mono (by omega)), Nat.lt_of_lt_of_le hs hb.size, Nat.lt_of_lt_of_le ht hb.size⟩
theorem HeldR.drew {w : World} {B : Nat} {op rd rs1 rs2 imm : Int} {b1 b2 b3 : Bool} {W : World} (h : HeldR w B op rd rs1 rs2 imm b1 b2 b3 W) : HeldR w B op rd rs1 rs2 imm b1 b2 b3 W.drew := by
  obtain ⟨h0, h1, h2, h3, h4, g0, g1, g2, hB, hs, ht⟩ := h
  exact ⟨h0, h1, h2, h3, h4, g0, g1, g2, hB.drew, hs, ht⟩
theorem HeldR.start {w w2 : World} {op rd rs1 rs2 imm : Int} {t u : TypeId} (b1 b2 b3 : Bool) (hb : Below (w.alloc (.cells #[.int .i64 op, .int .i64 rd, .int .i64 rs1, .int .i64 rs2, .int .i64 imm] t)).heap.size (w.alloc (.cells #[.int .i64 op, .int .i64 rd, .int .i64 rs1, .int .i64 rs2, .int .i64 imm] t)) w2) :
    HeldR w w2.heap.size op rd rs1 rs2 imm b1 b2 b3 (w2.alloc (.cells #[.bool b1, .bool b2, .bool b3] u)) := by
  obtain ⟨hc, _⟩ := bcell hb
  have hs : w.heap.size < w2.heap.size := by have := hb.size; rw [World.size_alloc] at this; omega
  have hl : w.heap.size < (w.alloc (.cells #[.int .i64 op, .int .i64 rd, .int .i64 rs1, .int .i64 rs2, .int .i64 imm] t)).heap.size := by rw [World.size_alloc]; omega
  have hn : ∀ o, (w2.alloc (.cells #[.bool b1, .bool b2, .bool b3] u)).cell? ⟨w.heap.size, o, none⟩ = (w.alloc (.cells #[.int .i64 op, .int .i64 rd, .int .i64 rs1, .int .i64 rs2, .int .i64 imm] t)).cell? ⟨w.heap.size, o, none⟩ := fun o => by
    rw [World.cell?_alloc_past _ _ _ (by simpa using hs)]; exact hc _ _ hl
  refine ⟨(hn 0).trans ?_, (hn 1).trans ?_, (hn 2).trans ?_, (hn 3).trans ?_, (hn 4).trans ?_, ?_, ?_, ?_, (((Below.refl _ _).alloc (Nat.le_refl _) _).trans (hb.mono (by simp))).alloc (Nat.le_of_lt hs) _, ?_, ?_⟩
  all_goals first | (rw [World.cell?_alloc_at _ _ _ _ rfl]; rfl) | (rw [World.size_alloc]; omega)

theorem fits_at (r : Int) (b t : Bool) (h : t = fit r b) (w : World) : Calls Try.prog 47 #[.int .i64 r, .bool b] w fun e w' => e = .returned (.bool t) ∧ w' = w := by
  subst h; exact fits_any r b w
theorem form_to (op : Int) (F : Nat) (hF : F = frm op) (w : World) : Calls Try.prog 45 #[.int .i64 op] w fun e w' => e = .returned (.int .u8 (F : Int)) ∧ Below w.heap.size w w' := by
  subst hF; exact form_any op w
theorem st_pos (f : Nat) : 1 ≤ st f := by unfold st; split <;> decide
theorem is8_frm (op : Int) (h : frm op ≠ 0) : is8 (frm op) ∧ 0 ≤ op ∧ op < 47 := by
  unfold frm at h ⊢
  by_cases h0 : 0 ≤ op
  · rw [if_pos h0] at h ⊢
    by_cases h1 : op.toNat < 47
    · exact ⟨is8_kf _ h1, h0, by omega⟩
    · exact absurd (kf_zero _ (by omega)) h
  · rw [if_neg h0] at h; exact absurd rfl h

set_option maxHeartbeats 1000000 in
theorem right_core (op rd rs1 rs2 imm : Int) (F : Nat) (hF : F = frm op) (h8 : is8 F) (b1 b2 b3 : Bool) (h1 : b1 = hRd F) (h2 : b2 = hRs1 F) (h3 : b3 = hRs2 F)
    (t1 t2 t3 t4 : Bool) (g1 : t1 = fit rd b1) (g2 : t2 = fit rs1 b2) (g3 : t3 = fit rs2 b3) (g4 : t4 = inSpan (lo F) (hi F) (st F) imm) (w : World) :
    Calls Try.prog 19 #[.agg #[.int .i64 op, .int .i64 rd, .int .i64 rs1, .int .i64 rs2, .int .i64 imm]] w fun e w' => e = .returned (.bool (t1 && t2 && t3 && t4)) ∧ Below w.heap.size w w' := by
  have HF : Hid (F = frm op) := hF
  have H8 : Hid (is8 F) := h8
  have H1 : Hid (b1 = hRd F) := h1
  have H2 : Hid (b2 = hRs1 F) := h2
  have H3 : Hid (b3 = hRs2 F) := h3
  replace g1 := g1.symm
  replace g2 := g2.symm
  replace g3 := g3.symm
  have G4 : Hid (t4 = inSpan (lo F) (hi F) (st F) imm) := g4
  have hne : ((F : Int) == 0) = false := by unfold is8 at h8; rw [beq_eq_false_iff_ne]; omega
  clear hF h8 h1 h2 h3 g4
  cases t1
  · go_enter Try.func19, Try.ntmps19
    go_wp2_with fail
    refine (form_to op F HF.out _).mono ?_
    rintro e w1 ⟨rfl, hb1⟩
    go_wp2_with fail
    refine (has_at F H8.out _ _ _ H1.out H2.out H3.out _).mono ?_
    rintro e w2 ⟨rfl, hb2⟩
    have hS0 := HeldR.start (u := 92) b1 b2 b3 (hb1.trans (hb2.mono hb1.size))
    obtain ⟨s0, s1, s2, s3, s4, r0, r1, r2, hB, _, _⟩ := hS0
    go_wp2_with fail
    go_quiet ((go_at_call 47; exact Calls.quiet_of_same (fits_any _ _ _)))
    go_wp2
    go_ret
    exact ⟨rfl, below_drewN hB _⟩
  · cases t2
    · go_enter Try.func19, Try.ntmps19
      go_wp2_with fail
      refine (form_to op F HF.out _).mono ?_
      rintro e w1 ⟨rfl, hb1⟩
      go_wp2_with fail
      refine (has_at F H8.out _ _ _ H1.out H2.out H3.out _).mono ?_
      rintro e w2 ⟨rfl, hb2⟩
      have hS0 := HeldR.start (u := 92) b1 b2 b3 (hb1.trans (hb2.mono hb1.size))
      obtain ⟨s0, s1, s2, s3, s4, r0, r1, r2, hB, _, _⟩ := hS0
      go_wp2_with fail
      go_quiet ((go_at_call 47; exact Calls.quiet_of_same (fits_any _ _ _)))
      go_wp2
      go_ret
      exact ⟨rfl, below_drewN hB _⟩
    · cases t3
      · go_enter Try.func19, Try.ntmps19
        go_wp2_with fail
        refine (form_to op F HF.out _).mono ?_
        rintro e w1 ⟨rfl, hb1⟩
        go_wp2_with fail
        refine (has_at F H8.out _ _ _ H1.out H2.out H3.out _).mono ?_
        rintro e w2 ⟨rfl, hb2⟩
        have hS0 := HeldR.start (u := 92) b1 b2 b3 (hb1.trans (hb2.mono hb1.size))
        obtain ⟨s0, s1, s2, s3, s4, r0, r1, r2, hB, _, _⟩ := hS0
        go_wp2_with fail
        go_quiet ((go_at_call 47; exact Calls.quiet_of_same (fits_any _ _ _)))
        go_wp2
        go_ret
        exact ⟨rfl, below_drewN hB _⟩
      · go_enter Try.func19, Try.ntmps19
        go_wp2_with fail
        refine (form_to op F HF.out _).mono ?_
        rintro e w1 ⟨rfl, hb1⟩
        go_wp2_with fail
        refine (has_at F H8.out _ _ _ H1.out H2.out H3.out _).mono ?_
        rintro e w2 ⟨rfl, hb2⟩
        have hS0 := HeldR.start (u := 92) b1 b2 b3 (hb1.trans (hb2.mono hb1.size))
        have HS0 : Hid (HeldR w w2.heap.size op rd rs1 rs2 imm b1 b2 b3 (w2.alloc (.cells #[.bool b1, .bool b2, .bool b3] 92))) := hS0
        clear hS0
        go_wp2_with fail
        go_region_held3 (fun w' => w'.cell? ⟨w.heap.size, 0, none⟩ = some (.int .i64 op) ∧ w'.cell? ⟨w.heap.size, 1, none⟩ = some (.int .i64 rd) ∧ w'.cell? ⟨w.heap.size, 2, none⟩ = some (.int .i64 rs1) ∧ w'.cell? ⟨w.heap.size, 3, none⟩ = some (.int .i64 rs2) ∧ w'.cell? ⟨w.heap.size, 4, none⟩ = some (.int .i64 imm) ∧ w'.cell? ⟨w2.heap.size, 0, none⟩ = some (.bool b1) ∧ w'.cell? ⟨w2.heap.size, 1, none⟩ = some (.bool b2) ∧ w'.cell? ⟨w2.heap.size, 2, none⟩ = some (.bool b3) ∧ Below w.heap.size w w' ∧ w.heap.size < w'.heap.size ∧ w2.heap.size < w'.heap.size)
          (first | assumption | exact HeldR.drew HS0.out)
          (first
            | (go_at_call 47; refine (fits_any _ _ _).mono ?_; rintro e w3 ⟨he, rfl⟩; (first | rw [g1] at he | rw [g2] at he | rw [g3] at he); subst he)
            | (go_at_call 48; refine (span_any F H8.out _).mono ?_; rintro e w3 ⟨rfl, hk⟩; have hS : HeldR w w2.heap.size op rd rs1 rs2 imm b1 b2 b3 w3 := HeldR.below (by assumption) hk)
            | (go_at_call 49; refine (holds_any _ _ _ _ (st_pos F) _).mono ?_; rintro e w4 ⟨rfl, hk⟩; have hS : HeldR w w2.heap.size op rd rs1 rs2 imm b1 b2 b3 w4 := HeldR.below (by assumption) hk))
        have hB := hS.2.2.2.2.2.2.2.2.1
        go_wp2
        go_ret
        exact ⟨ret_bool (by rw [G4.out]; rfl), hB⟩
end Go.Proofs.Ytilphdfobflbiaa
