/-
  Contract of package inst's Right: whether an instruction may be.
  Contract of package inst's Encode: an instruction's word.
  Contracts of package inst's Encode, Decode and Plain, as the laws meet them; and of the statements' own helper 'fixed'.
  Contract of the statements' own helper 'fixed': it answers true; what was in memory stays.
-/
import Derived.Deep.RegionHeld3
import Derived.Laws.StructEq
import Derived.Test.YthlefedljgmmfaaZb
import Derived.Test.YthlefedljgmmfaaZc
namespace Go.Proofs.Ythlefedljgmmfaa
open Go.RowKit Ip

/-- A world in which an instruction's box and the box of what its form has hold what they held, and all that was there is as it was. -/
def HeldR (w : World) (B : Nat) (op rd rs1 rs2 imm : Int) (b1 b2 b3 : Bool) (w' : World) : Prop :=
  w'.cell? ⟨w.heap.size, 0, none⟩ = some (.int .i64 op) ∧ w'.cell? ⟨w.heap.size, 1, none⟩ = some (.int .i64 rd) ∧ w'.cell? ⟨w.heap.size, 2, none⟩ = some (.int .i64 rs1) ∧ w'.cell? ⟨w.heap.size, 3, none⟩ = some (.int .i64 rs2) ∧ w'.cell? ⟨w.heap.size, 4, none⟩ = some (.int .i64 imm)
  ∧ w'.cell? ⟨B, 0, none⟩ = some (.bool b1) ∧ w'.cell? ⟨B, 1, none⟩ = some (.bool b2) ∧ w'.cell? ⟨B, 2, none⟩ = some (.bool b3) ∧ Below w.heap.size w w' ∧ w.heap.size < w'.heap.size ∧ B < w'.heap.size
theorem HeldR.below {w : World} {B : Nat} {op rd rs1 rs2 imm : Int} {b1 b2 b3 : Bool} {W w1 : World} (h : HeldR w B op rd rs1 rs2 imm b1 b2 b3 W) (hb : Below W.heap.size W w1) : HeldR w B op rd rs1 rs2 imm b1 b2 b3 w1 := by
  obtain ⟨h0, h1, h2, h3, h4, g0, g1, g2, hB, hs, ht⟩ := h
  obtain ⟨hc, _⟩ := bcell hb
  exact ⟨(hc _ _ hs).trans h0, (hc _ _ hs).trans h1, (hc _ _ hs).trans h2, (hc _ _ hs).trans h3, (hc _ _ hs).trans h4, (hc _ _ ht).trans g0, (hc _ _ ht).trans g1, (hc _ _ ht).trans g2,
    hB.trans (hb.mono (by omega)), Nat.lt_of_lt_of_le hs hb.size, Nat.lt_of_lt_of_le ht hb.size⟩
theorem HeldR.drew {w : World} {B : Nat} {op rd rs1 rs2 imm : Int} {b1 b2 b3 : Bool} {W : World} (h : HeldR w B op rd rs1 rs2 imm b1 b2 b3 W) : HeldR w B op rd rs1 rs2 imm b1 b2 b3 W.drew := by
  obtain ⟨h0, h1, h2, h3, h4, g0, g1, g2, hB, hs, ht⟩ := h
  exact ⟨h0, h1, h2, h3, h4, g0, g1, g2, hB.drew, hs, ht⟩
theorem HeldR.start {w w2 : World} {op rd rs1 rs2 imm : Int} {t u : TypeId} (b1 b2 b3 : Bool) (hb : Below (w.alloc (.cells #[.int .i64 op, .int .i64 rd, .int .i64 rs1, .int .i64 rs2, .int .i64 imm] t)).heap.size (w.alloc (.cells #[.int .i64 op, .int .i64 rd, .int .i64 rs1, .int .i64 rs2, .int .i64 imm] t)) w2) :
    HeldR w w2.heap.size op rd rs1 rs2 imm b1 b2 b3 (w2.alloc (.cells #[.bool b1, .bool b2, .bool b3] u)) := by
  obtain ⟨hc, _⟩ := bcell hb
  have hs : w.heap.size < w2.heap.size := by have := hb.size; rw [World.size_alloc] at this; omega
  have hl : w.heap.size < (w.alloc (.cells #[.int .i64 op, .int .i64 rd, .int .i64 rs1, .int .i64 rs2, .int .i64 imm] t)).heap.size := by rw [World.size_alloc]; omega
  have hn : ∀ o, (w2.alloc (.cells #[.bool b1, .bool b2, .bool b3] u)).cell? ⟨w.heap.size, o, none⟩ = (w.alloc (.cells #[.int .i64 op, .int .i64 rd, .int .i64 rs1, .int .i64 rs2, .int .i64 imm] t)).cell? ⟨w.heap.size, o, none⟩ := fun o => by
    rw [World.cell?_alloc_past _ _ _ (by simpa using hs)]; exact hc _ _ hl
  refine ⟨(hn 0).trans ?_, (hn 1).trans ?_, (hn 2).trans ?_, (hn 3).trans ?_, (hn 4).trans ?_, ?_, ?_, ?_, (((Below.refl _ _).alloc (Nat.le_refl _) _).trans (hb.mono (by simp))).alloc (Nat.le_of_lt hs) _, ?_, ?_⟩
  all_goals first | (rw [World.cell?_alloc_at _ _ _ _ rfl]; rfl) | (rw [World.size_alloc]; omega)

theorem st_pos (f : Nat) : 1 ≤ st f := by unfold st; split <;> decide
theorem is8_frm (op : Int) (h : frm op ≠ 0) : is8 (frm op) ∧ 0 ≤ op ∧ op < 47 := by
  unfold frm at h ⊢
  by_cases h0 : 0 ≤ op
  · rw [if_pos h0] at h ⊢
    by_cases h1 : op.toNat < 47
    · exact ⟨is8_kf _ h1, h0, by omega⟩
    · exact absurd (kf_zero _ (by omega)) h
  · rw [if_neg h0] at h; exact absurd rfl h

end Go.Proofs.Ythlefedljgmmfaa
namespace Go.Proofs.Ythlefedljgmmfaa
open Go.RowKit Ip

/-- A world in which an instruction's box holds what it held, and all that was there is as it was. -/
abbrev HeldX (w : World) (op rd rs1 rs2 imm : Int) (w' : World) : Prop :=
  w'.cell? ⟨w.heap.size, 0, none⟩ = some (.int .i64 op) ∧ w'.cell? ⟨w.heap.size, 1, none⟩ = some (.int .i64 rd) ∧ w'.cell? ⟨w.heap.size, 2, none⟩ = some (.int .i64 rs1) ∧ w'.cell? ⟨w.heap.size, 3, none⟩ = some (.int .i64 rs2) ∧ w'.cell? ⟨w.heap.size, 4, none⟩ = some (.int .i64 imm)
  ∧ Below w.heap.size w w' ∧ w.heap.size < w'.heap.size
theorem HeldX.below {w : World} {op rd rs1 rs2 imm : Int} {W w1 : World} (h : HeldX w op rd rs1 rs2 imm W) (hb : Below W.heap.size W w1) : HeldX w op rd rs1 rs2 imm w1 := by
  obtain ⟨h0, h1, h2, h3, h4, hB, hs⟩ := h
  obtain ⟨hc, _⟩ := bcell hb
  exact ⟨(hc _ _ hs).trans h0, (hc _ _ hs).trans h1, (hc _ _ hs).trans h2, (hc _ _ hs).trans h3, (hc _ _ hs).trans h4, hB.trans (hb.mono (by omega)), Nat.lt_of_lt_of_le hs hb.size⟩
theorem HeldX.drew {w : World} {op rd rs1 rs2 imm : Int} {W : World} (h : HeldX w op rd rs1 rs2 imm W) : HeldX w op rd rs1 rs2 imm W.drew := by
  obtain ⟨h0, h1, h2, h3, h4, hB, hs⟩ := h
  exact ⟨h0, h1, h2, h3, h4, hB.drew, hs⟩
theorem HeldX.alloc {w : World} {op rd rs1 rs2 imm : Int} {W : World} (h : HeldX w op rd rs1 rs2 imm W) (o : Obj) : HeldX w op rd rs1 rs2 imm (W.alloc o) :=
  h.below ((Below.refl _ _).alloc (Nat.le_refl _) _)
theorem HeldX.setCell {w : World} {op rd rs1 rs2 imm : Int} {W : World} (h : HeldX w op rd rs1 rs2 imm W) {p : Addr} (hp : w.heap.size < p.block) (u : Value) : HeldX w op rd rs1 rs2 imm (W.setCell p u) := by
  obtain ⟨h0, h1, h2, h3, h4, hB, hs⟩ := h
  have hn : ∀ o, p ≠ ⟨w.heap.size, o, none⟩ := fun o c => by rw [c] at hp; exact Nat.lt_irrefl _ hp
  refine ⟨?_, ?_, ?_, ?_, ?_, hB.setCell (Nat.le_of_lt hp) _, ?_⟩
  all_goals first | (rw [World.cell?_setCell_other _ _ _ _ (hn _)]; assumption) | (rw [World.size_setCell]; exact hs)
theorem HeldX.start (w : World) (op rd rs1 rs2 imm : Int) (t : TypeId) : HeldX w op rd rs1 rs2 imm (w.alloc (.cells #[.int .i64 op, .int .i64 rd, .int .i64 rs1, .int .i64 rs2, .int .i64 imm] t)) := by
  refine ⟨?_, ?_, ?_, ?_, ?_, (Below.refl _ _).alloc (Nat.le_refl _) _, ?_⟩
  all_goals first | (rw [World.cell?_alloc_at _ _ _ _ rfl]; rfl) | (rw [World.size_alloc]; omega)

/-- As HeldX, and a kind's box holds the kind. -/
def HeldK (w : World) (op rd rs1 rs2 imm : Int) (F O A B T : Nat) (w' : World) : Prop :=
  HeldX w op rd rs1 rs2 imm w' ∧ w'.cell? ⟨T, 0, none⟩ = some (.int .u8 (F : Int)) ∧ w'.cell? ⟨T, 1, none⟩ = some (.int .u8 (O : Int)) ∧ w'.cell? ⟨T, 2, none⟩ = some (.int .u8 (A : Int)) ∧ w'.cell? ⟨T, 3, none⟩ = some (.int .u8 (B : Int)) ∧ T < w'.heap.size
theorem HeldK.alloc {w : World} {op rd rs1 rs2 imm : Int} {F O A B : Nat} {w2 : World} (h : HeldX w op rd rs1 rs2 imm w2) (t : TypeId) :
    HeldK w op rd rs1 rs2 imm F O A B w2.heap.size (w2.alloc (.cells #[.int .u8 (F : Int), .int .u8 (O : Int), .int .u8 (A : Int), .int .u8 (B : Int)] t)) := by
  refine ⟨h.alloc _, ?_, ?_, ?_, ?_, ?_⟩
  all_goals first | (rw [World.cell?_alloc_at _ _ _ _ rfl]; rfl) | (rw [World.size_alloc]; omega)
theorem HeldK.set {w : World} {op rd rs1 rs2 imm : Int} {F O A B T : Nat} {w2 : World} (h : HeldX w op rd rs1 rs2 imm w2) (hT : w.heap.size < T) (c0 : w2.cell? ⟨T, 0, none⟩ = some (.int .u8 0)) (c1 : w2.cell? ⟨T, 1, none⟩ = some (.int .u8 0)) (c2 : w2.cell? ⟨T, 2, none⟩ = some (.int .u8 0)) (c3 : w2.cell? ⟨T, 3, none⟩ = some (.int .u8 0)) (hs : T < w2.heap.size) :
    HeldK w op rd rs1 rs2 imm F O A B T ((((w2.setCell ⟨T, 0, none⟩ (.int .u8 (F : Int))).setCell ⟨T, 1, none⟩ (.int .u8 (O : Int))).setCell ⟨T, 2, none⟩ (.int .u8 (A : Int))).setCell ⟨T, 3, none⟩ (.int .u8 (B : Int))) := by
  have ne : ∀ a b : Nat, a ≠ b → (⟨T, a, none⟩ : Addr) ≠ ⟨T, b, none⟩ := fun a b h c => h (by injection c)
  refine ⟨(((h.setCell hT _).setCell hT _).setCell hT _).setCell hT _, ?_, ?_, ?_, ?_, ?_⟩
  · rw [World.cell?_setCell_other _ _ _ _ (ne 3 0 (by decide)), World.cell?_setCell_other _ _ _ _ (ne 2 0 (by decide)), World.cell?_setCell_other _ _ _ _ (ne 1 0 (by decide)), World.cell?_setCell_same _ _ _ c0]
  · have d : (w2.setCell ⟨T, 0, none⟩ (.int .u8 (F : Int))).cell? ⟨T, 1, none⟩ = some (.int .u8 0) := by rw [World.cell?_setCell_other _ _ _ _ (ne 0 1 (by decide))]; exact c1
    rw [World.cell?_setCell_other _ _ _ _ (ne 3 1 (by decide)), World.cell?_setCell_other _ _ _ _ (ne 2 1 (by decide)), World.cell?_setCell_same _ _ _ d]
  · have d : ((w2.setCell ⟨T, 0, none⟩ (.int .u8 (F : Int))).setCell ⟨T, 1, none⟩ (.int .u8 (O : Int))).cell? ⟨T, 2, none⟩ = some (.int .u8 0) := by rw [World.cell?_setCell_other _ _ _ _ (ne 1 2 (by decide)), World.cell?_setCell_other _ _ _ _ (ne 0 2 (by decide))]; exact c2
    rw [World.cell?_setCell_other _ _ _ _ (ne 3 2 (by decide)), World.cell?_setCell_same _ _ _ d]
  · have d : (((w2.setCell ⟨T, 0, none⟩ (.int .u8 (F : Int))).setCell ⟨T, 1, none⟩ (.int .u8 (O : Int))).setCell ⟨T, 2, none⟩ (.int .u8 (A : Int))).cell? ⟨T, 3, none⟩ = some (.int .u8 0) := by rw [World.cell?_setCell_other _ _ _ _ (ne 2 3 (by decide)), World.cell?_setCell_other _ _ _ _ (ne 1 3 (by decide)), World.cell?_setCell_other _ _ _ _ (ne 0 3 (by decide))]; exact c3
    rw [World.cell?_setCell_same _ _ _ d]
  · rw [World.size_setCell, World.size_setCell, World.size_setCell, World.size_setCell]; exact hs
/-- As HeldK, and the box of what a form has holds that. -/
def HeldE (w : World) (op rd rs1 rs2 imm : Int) (F O A B T H : Nat) (b1 b2 b3 : Bool) (w' : World) : Prop :=
  w'.cell? ⟨w.heap.size, 0, none⟩ = some (.int .i64 op) ∧ w'.cell? ⟨w.heap.size, 1, none⟩ = some (.int .i64 rd) ∧ w'.cell? ⟨w.heap.size, 2, none⟩ = some (.int .i64 rs1) ∧ w'.cell? ⟨w.heap.size, 3, none⟩ = some (.int .i64 rs2) ∧ w'.cell? ⟨w.heap.size, 4, none⟩ = some (.int .i64 imm)
  ∧ w'.cell? ⟨T, 0, none⟩ = some (.int .u8 (F : Int)) ∧ w'.cell? ⟨T, 1, none⟩ = some (.int .u8 (O : Int)) ∧ w'.cell? ⟨T, 2, none⟩ = some (.int .u8 (A : Int)) ∧ w'.cell? ⟨T, 3, none⟩ = some (.int .u8 (B : Int))
  ∧ w'.cell? ⟨H, 0, none⟩ = some (.bool b1) ∧ w'.cell? ⟨H, 1, none⟩ = some (.bool b2) ∧ w'.cell? ⟨H, 2, none⟩ = some (.bool b3) ∧ Below w.heap.size w w' ∧ w.heap.size < w'.heap.size ∧ T < w'.heap.size ∧ H < w'.heap.size
theorem HeldE.below {w : World} {op rd rs1 rs2 imm : Int} {F O A B T H : Nat} {b1 b2 b3 : Bool} {W w1 : World} (h : HeldE w op rd rs1 rs2 imm F O A B T H b1 b2 b3 W) (hb : Below W.heap.size W w1) : HeldE w op rd rs1 rs2 imm F O A B T H b1 b2 b3 w1 := by
  obtain ⟨h0, h1, h2, h3, h4, k0, k1, k2, k3, g0, g1, g2, hB, hs, ht, hu⟩ := h
  obtain ⟨hc, _⟩ := bcell hb
  exact ⟨(hc _ _ hs).trans h0, (hc _ _ hs).trans h1, (hc _ _ hs).trans h2, (hc _ _ hs).trans h3, (hc _ _ hs).trans h4, (hc _ _ ht).trans k0, (hc _ _ ht).trans k1, (hc _ _ ht).trans k2, (hc _ _ ht).trans k3,
    (hc _ _ hu).trans g0, (hc _ _ hu).trans g1, (hc _ _ hu).trans g2, hB.trans (hb.mono (by omega)), Nat.lt_of_lt_of_le hs hb.size, Nat.lt_of_lt_of_le ht hb.size, Nat.lt_of_lt_of_le hu hb.size⟩
theorem HeldE.drew {w : World} {op rd rs1 rs2 imm : Int} {F O A B T H : Nat} {b1 b2 b3 : Bool} {W : World} (h : HeldE w op rd rs1 rs2 imm F O A B T H b1 b2 b3 W) : HeldE w op rd rs1 rs2 imm F O A B T H b1 b2 b3 W.drew := by
  obtain ⟨h0, h1, h2, h3, h4, k0, k1, k2, k3, g0, g1, g2, hB, hs, ht, hu⟩ := h
  exact ⟨h0, h1, h2, h3, h4, k0, k1, k2, k3, g0, g1, g2, hB.drew, hs, ht, hu⟩
theorem HeldE.start {w : World} {op rd rs1 rs2 imm : Int} {F O A B T : Nat} {X w3 : World} (b1 b2 b3 : Bool) (h : HeldK w op rd rs1 rs2 imm F O A B T X) (hb : Below X.heap.size X w3) (t : TypeId) :
    HeldE w op rd rs1 rs2 imm F O A B T w3.heap.size b1 b2 b3 (w3.alloc (.cells #[.bool b1, .bool b2, .bool b3] t)) := by
  obtain ⟨⟨h0, h1, h2, h3, h4, hB, hs⟩, k0, k1, k2, k3, ht⟩ := h
  have hb' : Below X.heap.size X (w3.alloc (.cells #[.bool b1, .bool b2, .bool b3] t)) := hb.alloc hb.size _
  obtain ⟨hc, _⟩ := bcell hb'
  refine ⟨(hc _ _ hs).trans h0, (hc _ _ hs).trans h1, (hc _ _ hs).trans h2, (hc _ _ hs).trans h3, (hc _ _ hs).trans h4, (hc _ _ ht).trans k0, (hc _ _ ht).trans k1, (hc _ _ ht).trans k2, (hc _ _ ht).trans k3,
    ?_, ?_, ?_, hB.trans (hb'.mono (by omega)), Nat.lt_of_lt_of_le hs hb'.size, Nat.lt_of_lt_of_le ht hb'.size, ?_⟩
  all_goals first | (rw [World.cell?_alloc_at _ _ _ _ rfl]; rfl) | (rw [World.size_alloc]; omega)

end Go.Proofs.Ythlefedljgmmfaa
namespace Go.Proofs.Ythlefedljgmmfaa
open Go.RowKit Ip

theorem kind_or (x : BitVec 32) : (∃ k, k < 47 ∧ asked x k = true) ∨ ∀ k, k < 47 → asked x k = false := by
  by_cases h : ∃ k, k < 47 ∧ asked x k = true
  · exact .inl h
  · refine .inr fun k hk => ?_
    cases e : asked x k with
    | false => rfl
    | true => exact absurd ⟨k, hk, e⟩ h

def plainV (op : Int) : Int := if op = 18 then 27 else if op = 19 then 30 else if op = 20 then 31 else if op = 21 then 32 else if op = 22 then 35 else if op = 23 then 36 else if op = 24 then 29 else if op = 25 then 33 else if op = 26 then 34 else 0
def plainB (op : Int) : Bool := decide (18 ≤ op ∧ op ≤ 26)
theorem ret_ib2 {k : IntKind} {a b : Int} {c d : Bool} (h : a = b) (h2 : c = d) : Ending.returned (.tuple #[.int k a, .bool c]) = .returned (.tuple #[.int k b, .bool d]) := by rw [h, h2]
def sameX (a b c d e a' b' c' d' e' : Int) : Bool := decide (a = a' ∧ b = b' ∧ c = c' ∧ d = d' ∧ e = e')
end Go.Proofs.Ythlefedljgmmfaa
namespace Go.Proofs.Ythlefedljgmmfaa
open Go.RowKit Ip

end Go.Proofs.Ythlefedljgmmfaa
