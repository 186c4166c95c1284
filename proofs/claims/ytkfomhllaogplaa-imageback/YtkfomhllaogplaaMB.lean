/-
  A memory in memory: a pointer to a struct of one field, which leads to a map that reads as the list of its bytes that are not 0. New and set.
-/
import Derived.Test.YtkfomhllaogplaaMA
import Derived.Test.YtkfomhllaogplaaProg
import Derived.WalkKit
import Derived.Handy
import Derived.RangeFuncRecord
namespace Go.Proofs.Ytkfomhllaogplaa
open Go.RowKit Go.Maps Mm

theorem lawU : Keyed Try.prog 22 := int_keyed Try.underlying22
theorem zeroB (w : World) : (zeroValue 5).run Try.prog w = .ok (.int .u8 0) w := by kernel_rfl

/-- The memory behind the pointer to block pb: its map is block bm, its bytes that are not 0 are l. -/
structure MemAt (w : World) (pb bm : Nat) (l : Cs) : Prop where
  box : w.heap[pb]? = some (.cells #[.map (some bm)] 81 (0, 0))
  rise : Rise l
  own : w.ownsMap Try.prog 22 (plainElem (H := Unit) Try.prog 5) bm l.length (D l)

theorem ownsMap_tight {w : World} {P : Program} {k : TypeId} {R : Value → Option (DataW Unit × List MemPlace)} {b n : Nat} {l : Cs} (h : w.ownsMap P k R b n (D l)) : w.ownsMap P k R b l.length (D l) := by
  obtain ⟨es, clock, hb, F, _, hD⟩ := h
  refine ⟨es, clock, hb, F, ?_, hD⟩
  have e : Maps.size (D l) = es.size := by rw [hD]; simp [Maps.size, length_sorted]
  rw [size_D] at e; omega

theorem MemAt.cell {w : World} {pb bm : Nat} {l : Cs} (h : MemAt w pb bm l) : w.cell? ⟨pb, 0, none⟩ = some (.map (some bm)) := by
  simp [World.cell?, h.box]
theorem MemAt.ne {w : World} {pb bm : Nat} {l : Cs} (h : MemAt w pb bm l) : pb ≠ bm := by
  obtain ⟨es, clock, hb, _⟩ := h.own
  intro e; have := h.box; rw [e, hb] at this; cases this
theorem MemAt.lt {w : World} {pb bm : Nat} {l : Cs} (h : MemAt w pb bm l) : pb < w.heap.size := (Array.getElem?_eq_some_iff.1 h.box).1
theorem MemAt.lt' {w : World} {pb bm : Nat} {l : Cs} (h : MemAt w pb bm l) : bm < w.heap.size := h.own.lt
theorem MemAt.kept {w w' : World} {pb bm : Nat} {l : Cs} {row : Option Nat} (h : MemAt w pb bm l) (hg : w.grownBy w' row) (h1 : some pb ≠ row) (h2 : some bm ≠ row) : MemAt w' pb bm l :=
  ⟨(hg.block pb h.lt h1).trans h.box, h.rise, h.own.kept hg h2⟩
theorem MemAt.below {w w' : World} {pb bm : Nat} {l : Cs} (h : MemAt w pb bm l) (hb : Below w.heap.size w w') : MemAt w' pb bm l :=
  h.kept (row := none) ⟨hb.os, hb.tape, hb.output, hb.size, fun k hk _ => hb.block k hk⟩ (by simp) (by simp)

set_option maxHeartbeats 1000000 in
theorem new_any (w : World) : Calls Try.prog 36 #[] w fun e w' => e = .returned (.pointer (some ⟨w.heap.size + 1, 0, none⟩)) ∧ MemAt w' (w.heap.size + 1) w.heap.size [] ∧ Below w.heap.size w w' ∧ w'.heap.size = w.heap.size + 2 := by
  have hmm := @run_makeMap Try.prog
  go_enter Try.func36, Try.ntmps36
  go_wp2
  go_ret
  refine ⟨rfl, ⟨?_, rise_nil, ?_⟩, ?_, by simp⟩
  · have := World.alloc_heap_new (w.alloc (.map #[] 0)) (.cells #[.map (some w.heap.size)] 81)
    simpa using this
  · exact (World.ownsMap_made w _ _ _).alloc _
  · exact ((Below.refl _ _).alloc (Nat.le_refl _) _).alloc (by simp) _

theorem grown_of_turned {w w' : World} {b : Nat} (h : w.mapTurned w' b) : w.grownBy w' (some b) := h.grown

set_option maxHeartbeats 1000000 in
theorem set_any {pb bm : Nat} {l : Cs} {a c : Int} (w : World) (h : MemAt w pb bm l) (ha : 0 ≤ a ∧ a < 4294967296) (hc : 0 ≤ c ∧ c ≤ 255) :
    Calls Try.prog 41 #[.pointer (some ⟨pb, 0, none⟩), .int .u32 a, .int .u8 c] w fun e w' => e = .returned (.tuple #[]) ∧ MemAt w' pb bm (Mm.set l a c) ∧ w.grownBy w' (some bm) := by
  have c0 := h.cell
  have hown := h.own
  have hl := h.rise.length
  have hkey : keyOf Try.prog 22 (.int .u32 a) = some (.int .u32 a) := keyOf_int_mk Try.underlying22 (wf_u32 ha)
  have hne := h.ne
  by_cases h0 : c = 0
  · subst h0
    go_enter Try.func41, Try.ntmps41
    go_wp2_with (first
      | (at_delete; refine wpList_delete_own _ rfl _ _ 79 22 rfl 5 lawU Try.underlying79 _ bm l.length _ rfl hown _ _ rfl hkey ?_; intro w1 hown1 hturn1)
      | go_in)
    refine bodyPost_ret (results_none rfl _ _ _) rfl ?_
    have hg := hturn1.grown
    rw [D_del] at hown1
    refine ⟨rfl, ⟨(hg.block pb h.lt (by simpa using hne)).trans h.box, rise_set h.rise ha hc, ?_⟩, hg⟩
    have : Mm.set l a 0 = del a l := by unfold Mm.set; rw [if_pos rfl]
    rw [this]; exact ownsMap_tight hown1
  · have hb : (c == 0) = false := by simp [h0]
    go_enter Try.func41, Try.ntmps41
    go_wp2_with (first
      | (at_mapUpdate; refine wpList_mapUpdate_own _ rfl _ _ _ 79 rfl 22 5 lawU Try.underlying79 _ bm l.length _ rfl hown (by unfold maxLen; omega) _ _ _ rfl rfl hkey _ [] (plainElem_int Try.underlying5 (wf_u8 hc)) ?_; intro w1 hown1 hgrow1)
      | go_in)
    go_end0
    rw [D_put h.rise] at hown1
    refine ⟨rfl, ⟨(hgrow1.block pb h.lt (by simpa using hne)).trans h.box, rise_set h.rise ha hc, ?_⟩, hgrow1⟩
    have : Mm.set l a c = ins a c l := by unfold Mm.set; rw [if_neg h0]
    rw [this]; exact ownsMap_tight hown1
end Go.Proofs.Ytkfomhllaogplaa
