/-
  Contract of package elf's attempt: what was odd in the work, or nothing.
-/
import Derived.Test.YtkfomhllaogplaaEA
namespace Go.Proofs.Ytkfomhllaogplaa
open Go.RowKit El

/-- What attempt leaves behind what the work left: its own result's variable alone is another one. -/
structure Left1 (w w1 w' : World) : Prop where
  size : w'.heap.size = w1.heap.size
  other : ∀ b, b ≠ w.heap.size → w'.heap[b]? = w1.heap[b]?
  below : Below w.heap.size w w'
theorem alloc_cell (w : World) (v : Value) (t : TypeId) : (w.alloc (.cells #[v] t)).cell? ⟨w.heap.size, 0, none⟩ = some v := by simp [go_sem]
theorem alloc_frozen (w : World) (v : Value) (t : TypeId) : (w.alloc (.cells #[v] t)).frozen? ⟨w.heap.size, 0, none⟩ = false := by simp [go_sem]
theorem below_cell {B : Nat} {w w' : World} (h : Below B w w') {b o : Nat} (hb : b < B) : w'.cell? ⟨b, o, none⟩ = w.cell? ⟨b, o, none⟩ ∧ w'.frozen? ⟨b, o, none⟩ = w.frozen? ⟨b, o, none⟩ := by
  simp only [World.cell?, World.frozen?, h.block b hb, and_self]
theorem set_size (w : World) (a : Addr) (v : Value) : (w.setCell a v).heap.size = w.heap.size := by simp [World.setCell]
theorem set_other (w : World) (a : Addr) (v : Value) (b : Nat) (h : b ≠ a.block) : (w.setCell a v).heap[b]? = w.heap[b]? := by
  simp only [World.setCell, Array.getElem?_modify]; rw [if_neg (fun e => h e.symm)]
theorem cell_shape {w : World} {a : Addr} {v : Value} (h : w.cell? a = some v) (u : Value) : (w.setCell a u).cell? a = some u := by
  obtain ⟨b, o, sp⟩ := a
  unfold World.cell? at h ⊢
  cases hb : w.heap[b]? with
  | none => simp only [hb] at h; cases h
  | some x =>
    simp only [hb] at h
    cases x with
    | cells cs t fr =>
      simp only at h
      cases sp with
      | some q => simp at h
      | none =>
        simp at h
        have ho : o < cs.size := by
          rcases Nat.lt_or_ge o cs.size with h1 | h1
          · exact h1
          · rw [Array.getElem?_eq_none h1] at h; cases h
        simp [World.setCell, Array.getElem?_modify, hb, ho]
    | _ => simp at h
theorem attempt_check (p : Addr) (k : Int) (hk : k = 0 ∨ Told k) (w : World) (R : World → Prop)
    (hw : Calls Try.prog 44 #[.pointer (some p)] (w.alloc (.cells #[.int .i64 0] 30)) fun e w' => e = ends k (.tuple #[]) ∧ Below (w.heap.size + 1) (w.alloc (.cells #[.int .i64 0] 30)) w' ∧ R w') :
    Calls Try.prog 43 #[.func (.func 44) #[] #[.pointer (some p)]] w fun e w' => e = .returned (.int .i64 k) ∧ ∃ w1, R w1 ∧ Left1 w w1 w' := by
  have hmf : ∀ (fn : Fn) (first cap : Array Value) (w : World), (Instr.makeFunc fn first cap).run Try.prog w = .ok (.func fn first cap) w := fun _ _ _ _ => rfl
  go_enter_defers Try.func43, Try.ntmps43
  go_wp2_with fail
  refine hw.mono ?_
  rintro e w1 ⟨rfl, hb, hR⟩
  have hb0 : Below w.heap.size w w1 := ((Below.refl _ w).alloc (Nat.le_refl _) _).trans (hb.mono (by omega))
  have hc : w1.cell? ⟨w.heap.size, 0, none⟩ = some (.int .i64 0) := by rw [(below_cell hb (by omega)).1]; exact alloc_cell _ _ _
  have hz : w1.frozen? ⟨w.heap.size, 0, none⟩ = false := by rw [(below_cell hb (by omega)).2]; exact alloc_frozen _ _ _
  rcases hk with rfl | hk
  · rw [ends_zero]
    go_wp2
    refine leaves_cons (f := 57) (args := #[.pointer (some ⟨w.heap.size, 0, none⟩)]) (by simp) (by simp [go_sem]) ?_
    refine (catch_nil ⟨w.heap.size, 0, none⟩ 0 _ (cell_shape hc _) (by rw [World.frozen?_setCell]; exact hz)).mono ?_
    rintro e u' w'' ⟨rfl, rfl, rfl⟩
    have hc2 := cell_shape (cell_shape hc (.int .i64 0)) (.int .i64 0)
    simp only [Leaves, settle]
    refine ⟨.int .i64 0, ?_, rfl, w1, hR, ⟨by rw [set_size, set_size], fun b h => by rw [set_other _ _ _ _ h, set_other _ _ _ _ h], (hb0.setCell (Nat.le_refl _) _).setCell (Nat.le_refl _) _⟩⟩
    simp [results, Try.results43, go_sem, hc2]
  · rw [ends_odd hk.ne]
    go_wp2
    refine leaves_cons (f := 57) (args := #[.pointer (some ⟨w.heap.size, 0, none⟩)]) (by simp) (by simp [go_sem]) ?_
    refine (catch_odd k hk ⟨w.heap.size, 0, none⟩ 0 [] _ hc hz).mono ?_
    rintro e u' w'' ⟨rfl, rfl, rfl⟩
    have hc2 := cell_shape hc (.int .i64 k)
    simp only [Leaves, settle, List.dropWhile]
    refine ⟨.int .i64 k, ?_, rfl, w1, hR, ⟨by rw [set_size], fun b h => by rw [set_other _ _ _ _ h], hb0.setCell (Nat.le_refl _) _⟩⟩
    simp [results, Try.results43, go_sem, hc2]
end Go.Proofs.Ytkfomhllaogplaa
