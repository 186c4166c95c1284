/-
  Contract of package inst's Encode: an instruction's word.
-/
import Derived.Test.YtilphdfobflbiaaIE
namespace Go.Proofs.Ytilphdfobflbiaa
open Go.RowKit Ip

theorem right_any (op rd rs1 rs2 imm : Int) (w : World) : Calls Try.prog 19 #[.agg #[.int .i64 op, .int .i64 rd, .int .i64 rs1, .int .i64 rs2, .int .i64 imm]] w fun e w' => e = .returned (.bool (right op rd rs1 rs2 imm)) ∧ Below w.heap.size w w' := by
  by_cases h : frm op = 0
  · have e : right op rd rs1 rs2 imm = false := by unfold right; rw [h]; rfl
    have E : Hid (right op rd rs1 rs2 imm = false) := e
    have H : Hid (0 = frm op) := h.symm
    clear e h
    go_enter Try.func19, Try.ntmps19
    go_wp2_with fail
    refine (form_to op 0 H.out _).mono ?_
    rintro e w1 ⟨rfl, hb1⟩
    go_wp2
    go_ret
    exact ⟨ret_bool E.out.symm, ((Below.refl _ _).alloc (Nat.le_refl _) _).trans (hb1.mono (by simp))⟩
  · have h8 := (is8_frm op h).1
    have e : right op rd rs1 rs2 imm = (fit rd (hRd (frm op)) && fit rs1 (hRs1 (frm op)) && fit rs2 (hRs2 (frm op)) && inSpan (lo (frm op)) (hi (frm op)) (st (frm op)) imm) := by
      unfold right; rw [decide_eq_true h, Bool.true_and]
    rw [e]
    exact right_core op rd rs1 rs2 imm _ rfl h8 _ _ _ rfl rfl rfl _ _ _ _ rfl rfl rfl rfl w

/-- A world in which an instruction's box holds what it held, and all that was there is as it was. -/
abbrev HeldX (w : World) (op rd rs1 rs2 imm : Int) (w' : World) : Prop :=
  w'.cell? ⟨w.heap.size, 0, none⟩ = some (.int .i64 op) ∧ w'.cell? ⟨w.heap.size, 1, none⟩ = some (.int .i64 rd) ∧ w'.cell? ⟨w.heap.size, 2, none⟩ = some (.int .i64 rs1) ∧ w'.cell? ⟨w.heap.size, 3, none⟩ = some (.int .i64 rs2) ∧ w'.cell? ⟨w.heap.size, 4, none⟩ = some (.int .i64 imm)
  ∧ Below w.heap.size w w' ∧ w.heap.size < w'.heap.size
theorem HeldX.below {w : World} {op rd rs1 rs2 imm : Int} {W w1 : World} (h : HeldX w op rd rs1 rs2 imm W) (hb : Below W.heap.size W w1) : HeldX w op rd rs1 rs2 imm w1 := by
  obtain ⟨h0, h1, h2, h3, h4, hB, hs⟩ := h
  obtain ⟨hc, _⟩ := bcell hb
  exact ⟨(hc _ _ hs).trans h0, (hc _ _ hs).trans h1, (hc _ _ hs).trans h2, (hc _ _ hs).trans h3, (hc _ _ hs).trans h4, hB.trans (hb.mono (by omega)), Nat.lt_of_lt_of_le hs hb.size⟩
theorem HeldX.drew {w : World} {op rd rs1 rs2 imm : Int} {W : World} (h : HeldX w op rd rs1 rs2 imm W) : HeldX w op rd rs1 rs2 imm W.drew := by
  obtain ⟨h0, h1, h2, h3, h4, hB, hs⟩ := h
  exact ⟨h0, h1, h2, h3, h4, hB.drew, hs⟩
theorem HeldX.alloc {w : World} {op rd rs1 rs2 imm : Int} {W : World} (h : HeldX w op rd rs1 rs2 imm W) (o : Obj) : HeldX w op rd rs1 rs2 imm (W.alloc o) :=
  h.below ((Below.refl _ _).alloc (Nat.le_refl _) _)
theorem HeldX.setCell {w : World} {op rd rs1 rs2 imm : Int} {W : World} (h : HeldX w op rd rs1 rs2 imm W) {p : Addr} (hp : w.heap.size < p.block) (u : Value) : HeldX w op rd rs1 rs2 imm (W.setCell p u) := by
  obtain ⟨h0, h1, h2, h3, h4, hB, hs⟩ := h
  have hn : ∀ o, p ≠ ⟨w.heap.size, o, none⟩ := fun o c => by rw [c] at hp; exact Nat.lt_irrefl _ hp
  refine ⟨?_, ?_, ?_, ?_, ?_, hB.setCell (Nat.le_of_lt hp) _, ?_⟩
  all_goals first | (rw [World.cell?_setCell_other _ _ _ _ (hn _)]; assumption) | (rw [World.size_setCell]; exact hs)
theorem HeldX.start (w : World) (op rd rs1 rs2 imm : Int) (t : TypeId) : HeldX w op rd rs1 rs2 imm (w.alloc (.cells #[.int .i64 op, .int .i64 rd, .int .i64 rs1, .int .i64 rs2, .int .i64 imm] t)) := by
  refine ⟨?_, ?_, ?_, ?_, ?_, (Below.refl _ _).alloc (Nat.le_refl _) _, ?_⟩
  all_goals first | (rw [World.cell?_alloc_at _ _ _ _ rfl]; rfl) | (rw [World.size_alloc]; omega)

/-- As HeldX, and a kind's box holds the kind. -/
def HeldK (w : World) (op rd rs1 rs2 imm : Int) (F O A B T : Nat) (w' : World) : Prop :=
  HeldX w op rd rs1 rs2 imm w' ∧ w'.cell? ⟨T, 0, none⟩ = some (.int .u8 (F : Int)) ∧ w'.cell? ⟨T, 1, none⟩ = some (.int .u8 (O : Int)) ∧ w'.cell? ⟨T, 2, none⟩ = some (.int .u8 (A : Int)) ∧ w'.cell? ⟨T, 3, none⟩ = some (.int .u8 (B : Int)) ∧ T < w'.heap.size
theorem HeldK.alloc {w : World} {op rd rs1 rs2 imm : Int} {F O A B : Nat} {w2 : World} (h : HeldX w op rd rs1 rs2 imm w2) (t : TypeId) :
    HeldK w op rd rs1 rs2 imm F O A B w2.heap.size (w2.alloc (.cells #[.int .u8 (F : Int), .int .u8 (O : Int), .int .u8 (A : Int), .int .u8 (B : Int)] t)) := by
  refine ⟨h.alloc _, ?_, ?_, ?_, ?_, ?_⟩
  all_goals first | (rw [World.cell?_alloc_at _ _ _ _ rfl]; rfl) | (rw [World.size_alloc]; omega)
theorem HeldK.set {w : World} {op rd rs1 rs2 imm : Int} {F O A B T : Nat} {w2 : World} (h : HeldX w op rd rs1 rs2 imm w2) (hT : w.heap.size < T) (c0 : w2.cell? ⟨T, 0, none⟩ = some (.int .u8 0)) (c1 : w2.cell? ⟨T, 1, none⟩ = some (.int .u8 0)) (c2 : w2.cell? ⟨T, 2, none⟩ = some (.int .u8 0)) (c3 : w2.cell? ⟨T, 3, none⟩ = some (.int .u8 0)) (hs : T < w2.heap.size) :
    HeldK w op rd rs1 rs2 imm F O A B T ((((w2.setCell ⟨T, 0, none⟩ (.int .u8 (F : Int))).setCell ⟨T, 1, none⟩ (.int .u8 (O : Int))).setCell ⟨T, 2, none⟩ (.int .u8 (A : Int))).setCell ⟨T, 3, none⟩ (.int .u8 (B : Int))) := by
  have ne : ∀ a b : Nat, a ≠ b → (⟨T, a, none⟩ : Addr) ≠ ⟨T, b, none⟩ := fun a b h c => h (by injection c)
  refine ⟨(((h.setCell hT _).setCell hT _).setCell hT _).setCell hT _, ?_, ?_, ?_, ?_, ?_⟩
  · rw [World.cell?_setCell_other _ _ _ _ (ne 3 0 (by decide)), World.cell?_setCell_other _ _ _ _ (ne 2 0 (by decide)), World.cell?_setCell_other _ _ _ _ (ne 1 0 (by decide)), World.cell?_setCell_same _ _ _ c0]
  · have d : (w2.setCell ⟨T, 0, none⟩ (.int .u8 (F : Int))).cell? ⟨T, 1, none⟩ = some (.int .u8 0) := by rw [World.cell?_setCell_other _ _ _ _ (ne 0 1 (by decide))]; exact c1
    rw [World.cell?_setCell_other _ _ _ _ (ne 3 1 (by decide)), World.cell?_setCell_other _ _ _ _ (ne 2 1 (by decide)), World.cell?_setCell_same _ _ _ d]
  · have d : ((w2.setCell ⟨T, 0, none⟩ (.int .u8 (F : Int))).setCell ⟨T, 1, none⟩ (.int .u8 (O : Int))).cell? ⟨T, 2, none⟩ = some (.int .u8 0) := by rw [World.cell?_setCell_other _ _ _ _ (ne 1 2 (by decide)), World.cell?_setCell_other _ _ _ _ (ne 0 2 (by decide))]; exact c2
    rw [World.cell?_setCell_other _ _ _ _ (ne 3 2 (by decide)), World.cell?_setCell_same _ _ _ d]
  · have d : (((w2.setCell ⟨T, 0, none⟩ (.int .u8 (F : Int))).setCell ⟨T, 1, none⟩ (.int .u8 (O : Int))).setCell ⟨T, 2, none⟩ (.int .u8 (A : Int))).cell? ⟨T, 3, none⟩ = some (.int .u8 0) := by rw [World.cell?_setCell_other _ _ _ _ (ne 2 3 (by decide)), World.cell?_setCell_other _ _ _ _ (ne 1 3 (by decide)), World.cell?_setCell_other _ _ _ _ (ne 0 3 (by decide))]; exact c3
    rw [World.cell?_setCell_same _ _ _ d]
  · rw [World.size_setCell, World.size_setCell, World.size_setCell, World.size_setCell]; exact hs
/-- As HeldK, and the box of what a form has holds that. -/
def HeldE (w : World) (op rd rs1 rs2 imm : Int) (F O A B T H : Nat) (b1 b2 b3 : Bool) (w' : World) : Prop :=
  w'.cell? ⟨w.heap.size, 0, none⟩ = some (.int .i64 op) ∧ w'.cell? ⟨w.heap.size, 1, none⟩ = some (.int .i64 rd) ∧ w'.cell? ⟨w.heap.size, 2, none⟩ = some (.int .i64 rs1) ∧ w'.cell? ⟨w.heap.size, 3, none⟩ = some (.int .i64 rs2) ∧ w'.cell? ⟨w.heap.size, 4, none⟩ = some (.int .i64 imm)
  ∧ w'.cell? ⟨T, 0, none⟩ = some (.int .u8 (F : Int)) ∧ w'.cell? ⟨T, 1, none⟩ = some (.int .u8 (O : Int)) ∧ w'.cell? ⟨T, 2, none⟩ = some (.int .u8 (A : Int)) ∧ w'.cell? ⟨T, 3, none⟩ = some (.int .u8 (B : Int))
  ∧ w'.cell? ⟨H, 0, none⟩ = some (.bool b1) ∧ w'.cell? ⟨H, 1, none⟩ = some (.bool b2) ∧ w'.cell? ⟨H, 2, none⟩ = some (.bool b3) ∧ Below w.heap.size w w' ∧ w.heap.size < w'.heap.size ∧ T < w'.heap.size ∧ H < w'.heap.size
theorem HeldE.below {w : World} {op rd rs1 rs2 imm : Int} {F O A B T H : Nat} {b1 b2 b3 : Bool} {W w1 : World} (h : HeldE w op rd rs1 rs2 imm F O A B T H b1 b2 b3 W) (hb : Below W.heap.size W w1) : HeldE w op rd rs1 rs2 imm F O A B T H b1 b2 b3 w1 := by
  obtain ⟨h0, h1, h2, h3, h4, k0, k1, k2, k3, g0, g1, g2, hB, hs, ht, hu⟩ := h
  obtain ⟨hc, _⟩ := bcell hb
  exact ⟨(hc _ _ hs).trans h0, (hc _ _ hs).trans h1, (hc _ _ hs).trans h2, (hc _ _ hs).trans h3, (hc _ _ hs).trans h4, (hc _ _ ht).trans k0, (hc _ _ ht).trans k1, (hc _ _ ht).trans k2, (hc _ _ ht).trans k3,
    (hc _ _ hu).trans g0, (hc _ _ hu).trans g1, (hc _ _ hu).trans g2, hB.trans (hb.mono (by omega)), Nat.lt_of_lt_of_le hs hb.size, Nat.lt_of_lt_of_le ht hb.size, Nat.lt_of_lt_of_le hu hb.size⟩
theorem HeldE.drew {w : World} {op rd rs1 rs2 imm : Int} {F O A B T H : Nat} {b1 b2 b3 : Bool} {W : World} (h : HeldE w op rd rs1 rs2 imm F O A B T H b1 b2 b3 W) : HeldE w op rd rs1 rs2 imm F O A B T H b1 b2 b3 W.drew := by
  obtain ⟨h0, h1, h2, h3, h4, k0, k1, k2, k3, g0, g1, g2, hB, hs, ht, hu⟩ := h
  exact ⟨h0, h1, h2, h3, h4, k0, k1, k2, k3, g0, g1, g2, hB.drew, hs, ht, hu⟩
theorem HeldE.start {w : World} {op rd rs1 rs2 imm : Int} {F O A B T : Nat} {X w3 : World} (b1 b2 b3 : Bool) (h : HeldK w op rd rs1 rs2 imm F O A B T X) (hb : Below X.heap.size X w3) (t : TypeId) :
    HeldE w op rd rs1 rs2 imm F O A B T w3.heap.size b1 b2 b3 (w3.alloc (.cells #[.bool b1, .bool b2, .bool b3] t)) := by
  obtain ⟨⟨h0, h1, h2, h3, h4, hB, hs⟩, k0, k1, k2, k3, ht⟩ := h
  have hb' : Below X.heap.size X (w3.alloc (.cells #[.bool b1, .bool b2, .bool b3] t)) := hb.alloc hb.size _
  obtain ⟨hc, _⟩ := bcell hb'
  refine ⟨(hc _ _ hs).trans h0, (hc _ _ hs).trans h1, (hc _ _ hs).trans h2, (hc _ _ hs).trans h3, (hc _ _ hs).trans h4, (hc _ _ ht).trans k0, (hc _ _ ht).trans k1, (hc _ _ ht).trans k2, (hc _ _ ht).trans k3,
    ?_, ?_, ?_, hB.trans (hb'.mono (by omega)), Nat.lt_of_lt_of_le hs hb'.size, Nat.lt_of_lt_of_le ht hb'.size, ?_⟩
  all_goals first | (rw [World.cell?_alloc_at _ _ _ _ rfl]; rfl) | (rw [World.size_alloc]; omega)

end Go.Proofs.Ytilphdfobflbiaa
