/-
  Contracts of package asm's guessed and Parse: a text's instruction.
  Contract of package asm's Parse.
-/

import Derived.Test.YtdjladaefoedfaaDoorZA2
import Derived.Test.YtdjladaefoedfaaDoorZA3
import Derived.Test.YtdjladaefoedfaaDoorZd
namespace Go.Proofs.YtdjladaefoedfaaDoor
open Go.RowKit Ip As Go.Lib

theorem zeroX (w : World) : (zeroValue 23).run Tryd.prog w = .ok (.agg #[.int .i64 0, .int .i64 0, .int .i64 0, .int .i64 0, .int .i64 0]) w := by kernel_rfl
abbrev Z5 : Array Value := #[.int .i64 0, .int .i64 0, .int .i64 0, .int .i64 0, .int .i64 0]
/-- While guessed is at work: the answer's box, the instruction's. -/
structure GuessAt (w : World) (op : Int) (W : World) : Prop where
  res : W.heap[w.heap.size]? = some (.cells Z5 23 (0, 0))
  box : W.heap[w.heap.size + 1]? = some (.cells #[.int .i64 op, .int .i64 0, .int .i64 0, .int .i64 0, .int .i64 0] 23 (0, 0))
  low : Below w.heap.size w W
theorem GuessAt.lt {w W : World} {op : Int} (h : GuessAt w op W) : w.heap.size + 1 < W.heap.size := (Array.getElem?_eq_some_iff.1 h.box).1
theorem GuessAt.below {w W W' : World} {op : Int} (h : GuessAt w op W) (hb : Below W.heap.size W W') : GuessAt w op W' := by
  have := h.lt
  exact ⟨by rw [hb.block _ (by omega)]; exact h.res, by rw [hb.block _ (by omega)]; exact h.box, h.low.trans (hb.mono (by omega))⟩
theorem GuessAt.start (w : World) (op : Int) : GuessAt w op ((w.alloc (.cells Z5 23)).alloc (.cells #[.int .i64 op, .int .i64 0, .int .i64 0, .int .i64 0, .int .i64 0] 23)) := by
  refine ⟨?_, ?_, ((Below.refl _ _).alloc (Nat.le_refl _) _).alloc (by simp) _⟩
  · rw [((Below.refl (w.heap.size + 1) (w.alloc (.cells Z5 23))).alloc (by simp) _).block _ (by omega)]; exact heap_alloc_new _ _
  · have := heap_alloc_new (w.alloc (.cells Z5 23)) (.cells #[.int .i64 op, .int .i64 0, .int .i64 0, .int .i64 0, .int .i64 0] 23)
    simpa using this
theorem boxA_nil (op : Int) (fs : List Nat) : boxA op fs [] = #[.int .i64 op, .int .i64 0, .int .i64 0, .int .i64 0, .int .i64 0] := by
  unfold boxA boxV; simp
theorem GuessAt.nums {w W : World} {op : Int} (h : GuessAt w op W) (g : Gl w) (fs : List Nat) (cs : Array Value) (t : TypeId) (hc : ∀ (j f : Nat), fs[j]? = some f → cs[j]? = some (Value.pointer (some ⟨w.heap.size + 1, f, none⟩))) :
    Nums (W.alloc (.cells cs t)) (w.heap.size + 1) W.heap.size fs op [] (W.alloc (.cells cs t)) := by
  have hb : Below W.heap.size W (W.alloc (.cells cs t)) := (Below.refl _ _).alloc (Nat.le_refl _) _
  have := h.lt
  refine ⟨?_, fun j f hf => ?_, Below.refl _ _, by simp, by omega, (g.grow h.low).grow hb, by have := g.big; omega⟩
  · rw [hb.block _ (by omega), h.box, boxA_nil]
  · simp only [World.cell?]; rw [heap_alloc_new]; exact hc j f hf
theorem Nums.res {w W W' : World} {op : Int} {fs : List Nat} {vs : List Int} {cs : Array Value} {t : TypeId} (h : GuessAt w op W) (n : Nums (W.alloc (.cells cs t)) (w.heap.size + 1) W.heap.size fs op vs W') :
    W'.heap[w.heap.size]? = some (.cells Z5 23 (0, 0)) ∧ W'.heap[w.heap.size + 1]? = some (.cells (boxA op fs vs) 23 (0, 0)) ∧ Below w.heap.size w W' := by
  have hb : Below W.heap.size W (W.alloc (.cells cs t)) := (Below.refl _ _).alloc (Nat.le_refl _) _
  have := h.lt
  exact ⟨by rw [n.low.block _ (by omega), hb.block _ (by omega)]; exact h.res, n.box, (h.low.trans (hb.mono (by omega))).trans (n.low.mono (by omega))⟩
theorem boxA_one (op : Int) (fs : List Nat) (vs : List Int) : (boxA op fs vs).all (·.oneCell') = true := by unfold boxA; kernel_rfl

set_option maxHeartbeats 4000000 in
set_option maxRecDepth 100000 in
theorem guessed_85 (op : Int) (hsh : sh op = 85) (s : List UInt8) (hs : s.length ≤ 100000) (w : World) (hG : Gl w) :
    Calls Tryd.prog 30 #[.int .i64 op, .string ⟨s.toArray⟩] w fun e w' => e = .returned (.agg (boxA op [1, 4] (numsV 2 s))) ∧ Below w.heap.size w w' := by
  have HS : Hid (sh op = 85) := hsh
  have HG : Hid (Gl w) := hG
  have hz := zeroX
  clear hsh hG
  go_enter Tryd.func30, Tryd.ntmps30
  go_wp2_with fail
  refine (shape_to op 85 HS.out _).mono ?_
  rintro e w1 ⟨rfl, hb1⟩
  have HX : Hid (GuessAt w op w1) := (GuessAt.start w op).below hb1
  clear hb1
  go_wp2_with fail
  refine (numbers_at s hs _ (w.heap.size + 1) w1.heap.size [1, 4] op 2 rfl (by decide) (by decide) (by decide) (HX.out.nums HG.out _ _ _ (fun j f hf => by
    match j, hf with
    | 0, hf => simp at hf; subst hf; rfl
    | 1, hf => simp at hf; subst hf; rfl
    | j + 2, hf => simp at hf))).mono ?_
  rintro e w2 ⟨rfl, hN⟩
  obtain ⟨hr, hbx, hB⟩ := Nums.res HX.out hN
  clear hN
  go_wp2_with (first
    | (refine wpList_load_row rfl 23 _ rfl (w.heap.size + 1) rfl _ _ _ _ hbx Tryd.underlying23 rfl (by kernel_rfl) ?_)
    | (refine wpList_store_row rfl 23 _ _ rfl w.heap.size (boxA op [1, 4] (numsV 2 s)) rfl rfl _ Z5 hr (by kernel_rfl) rfl (boxA_one _ _ _) ?_))
  refine bodyPost_ret (v := .agg (boxA op [1, 4] (numsV 2 s))) (results_cell_row (p := 4) (by kernel_rfl) _ _ w.heap.size _ _ _ _ (by kernel_rfl) (setRow_heap _ _ _ _ _ _ hr) Tryd.underlying23 rfl (by kernel_rfl)) rfl ⟨rfl, below_setRow hB (Nat.le_refl _) _⟩

set_option maxHeartbeats 4000000 in
set_option maxRecDepth 100000 in
theorem guessed_74 (op : Int) (hsh : sh op = 74) (s : List UInt8) (hs : s.length ≤ 100000) (w : World) (hG : Gl w) :
    Calls Tryd.prog 30 #[.int .i64 op, .string ⟨s.toArray⟩] w fun e w' => e = .returned (.agg (boxA op [1, 4] (numsV 2 s))) ∧ Below w.heap.size w w' := by
  have HS : Hid (sh op = 74) := hsh
  have HG : Hid (Gl w) := hG
  have hz := zeroX
  clear hsh hG
  go_enter Tryd.func30, Tryd.ntmps30
  go_wp2_with fail
  refine (shape_to op 74 HS.out _).mono ?_
  rintro e w1 ⟨rfl, hb1⟩
  have HX : Hid (GuessAt w op w1) := (GuessAt.start w op).below hb1
  clear hb1
  go_wp2_with fail
  refine (numbers_at s hs _ (w.heap.size + 1) w1.heap.size [1, 4] op 2 rfl (by decide) (by decide) (by decide) (HX.out.nums HG.out _ _ _ (fun j f hf => by
    match j, hf with
    | 0, hf => simp at hf; subst hf; rfl
    | 1, hf => simp at hf; subst hf; rfl
    | j + 2, hf => simp at hf))).mono ?_
  rintro e w2 ⟨rfl, hN⟩
  obtain ⟨hr, hbx, hB⟩ := Nums.res HX.out hN
  clear hN
  go_wp2_with (first
    | (refine wpList_load_row rfl 23 _ rfl (w.heap.size + 1) rfl _ _ _ _ hbx Tryd.underlying23 rfl (by kernel_rfl) ?_)
    | (refine wpList_store_row rfl 23 _ _ rfl w.heap.size (boxA op [1, 4] (numsV 2 s)) rfl rfl _ Z5 hr (by kernel_rfl) rfl (boxA_one _ _ _) ?_))
  refine bodyPost_ret (v := .agg (boxA op [1, 4] (numsV 2 s))) (results_cell_row (p := 4) (by kernel_rfl) _ _ w.heap.size _ _ _ _ (by kernel_rfl) (setRow_heap _ _ _ _ _ _ hr) Tryd.underlying23 rfl (by kernel_rfl)) rfl ⟨rfl, below_setRow hB (Nat.le_refl _) _⟩

set_option maxHeartbeats 4000000 in
set_option maxRecDepth 100000 in
theorem guessed_82 (op : Int) (hsh : sh op = 82) (s : List UInt8) (hs : s.length ≤ 100000) (w : World) (hG : Gl w) :
    Calls Tryd.prog 30 #[.int .i64 op, .string ⟨s.toArray⟩] w fun e w' => e = .returned (.agg (boxA op [1, 2, 3] (numsV 3 s))) ∧ Below w.heap.size w w' := by
  have HS : Hid (sh op = 82) := hsh
  have HG : Hid (Gl w) := hG
  have hz := zeroX
  clear hsh hG
  go_enter Tryd.func30, Tryd.ntmps30
  go_wp2_with fail
  refine (shape_to op 82 HS.out _).mono ?_
  rintro e w1 ⟨rfl, hb1⟩
  have HX : Hid (GuessAt w op w1) := (GuessAt.start w op).below hb1
  clear hb1
  go_wp2_with fail
  refine (numbers_at s hs _ (w.heap.size + 1) w1.heap.size [1, 2, 3] op 3 rfl (by decide) (by decide) (by decide) (HX.out.nums HG.out _ _ _ (fun j f hf => by
    match j, hf with
    | 0, hf => simp at hf; subst hf; rfl
    | 1, hf => simp at hf; subst hf; rfl
    | 2, hf => simp at hf; subst hf; rfl
    | j + 3, hf => simp at hf))).mono ?_
  rintro e w2 ⟨rfl, hN⟩
  obtain ⟨hr, hbx, hB⟩ := Nums.res HX.out hN
  clear hN
  go_wp2_with (first
    | (refine wpList_load_row rfl 23 _ rfl (w.heap.size + 1) rfl _ _ _ _ hbx Tryd.underlying23 rfl (by kernel_rfl) ?_)
    | (refine wpList_store_row rfl 23 _ _ rfl w.heap.size (boxA op [1, 2, 3] (numsV 3 s)) rfl rfl _ Z5 hr (by kernel_rfl) rfl (boxA_one _ _ _) ?_))
  refine bodyPost_ret (v := .agg (boxA op [1, 2, 3] (numsV 3 s))) (results_cell_row (p := 4) (by kernel_rfl) _ _ w.heap.size _ _ _ _ (by kernel_rfl) (setRow_heap _ _ _ _ _ _ hr) Tryd.underlying23 rfl (by kernel_rfl)) rfl ⟨rfl, below_setRow hB (Nat.le_refl _) _⟩

set_option maxHeartbeats 4000000 in
set_option maxRecDepth 100000 in
theorem guessed_66 (op : Int) (hsh : sh op = 66) (s : List UInt8) (hs : s.length ≤ 100000) (w : World) (hG : Gl w) :
    Calls Tryd.prog 30 #[.int .i64 op, .string ⟨s.toArray⟩] w fun e w' => e = .returned (.agg (boxA op [2, 3, 4] (numsV 3 s))) ∧ Below w.heap.size w w' := by
  have HS : Hid (sh op = 66) := hsh
  have HG : Hid (Gl w) := hG
  have hz := zeroX
  clear hsh hG
  go_enter Tryd.func30, Tryd.ntmps30
  go_wp2_with fail
  refine (shape_to op 66 HS.out _).mono ?_
  rintro e w1 ⟨rfl, hb1⟩
  have HX : Hid (GuessAt w op w1) := (GuessAt.start w op).below hb1
  clear hb1
  go_wp2_with fail
  refine (numbers_at s hs _ (w.heap.size + 1) w1.heap.size [2, 3, 4] op 3 rfl (by decide) (by decide) (by decide) (HX.out.nums HG.out _ _ _ (fun j f hf => by
    match j, hf with
    | 0, hf => simp at hf; subst hf; rfl
    | 1, hf => simp at hf; subst hf; rfl
    | 2, hf => simp at hf; subst hf; rfl
    | j + 3, hf => simp at hf))).mono ?_
  rintro e w2 ⟨rfl, hN⟩
  obtain ⟨hr, hbx, hB⟩ := Nums.res HX.out hN
  clear hN
  go_wp2_with (first
    | (refine wpList_load_row rfl 23 _ rfl (w.heap.size + 1) rfl _ _ _ _ hbx Tryd.underlying23 rfl (by kernel_rfl) ?_)
    | (refine wpList_store_row rfl 23 _ _ rfl w.heap.size (boxA op [2, 3, 4] (numsV 3 s)) rfl rfl _ Z5 hr (by kernel_rfl) rfl (boxA_one _ _ _) ?_))
  refine bodyPost_ret (v := .agg (boxA op [2, 3, 4] (numsV 3 s))) (results_cell_row (p := 4) (by kernel_rfl) _ _ w.heap.size _ _ _ _ (by kernel_rfl) (setRow_heap _ _ _ _ _ _ hr) Tryd.underlying23 rfl (by kernel_rfl)) rfl ⟨rfl, below_setRow hB (Nat.le_refl _) _⟩

set_option maxHeartbeats 4000000 in
set_option maxRecDepth 100000 in
theorem guessed_83 (op : Int) (hsh : sh op = 83) (s : List UInt8) (hs : s.length ≤ 100000) (w : World) (hG : Gl w) :
    Calls Tryd.prog 30 #[.int .i64 op, .string ⟨s.toArray⟩] w fun e w' => e = .returned (.agg (boxA op [3, 4, 2] (numsV 3 s))) ∧ Below w.heap.size w w' := by
  have HS : Hid (sh op = 83) := hsh
  have HG : Hid (Gl w) := hG
  have hz := zeroX
  clear hsh hG
  go_enter Tryd.func30, Tryd.ntmps30
  go_wp2_with fail
  refine (shape_to op 83 HS.out _).mono ?_
  rintro e w1 ⟨rfl, hb1⟩
  have HX : Hid (GuessAt w op w1) := (GuessAt.start w op).below hb1
  clear hb1
  go_wp2_with fail
  refine (numbers_at s hs _ (w.heap.size + 1) w1.heap.size [3, 4, 2] op 3 rfl (by decide) (by decide) (by decide) (HX.out.nums HG.out _ _ _ (fun j f hf => by
    match j, hf with
    | 0, hf => simp at hf; subst hf; rfl
    | 1, hf => simp at hf; subst hf; rfl
    | 2, hf => simp at hf; subst hf; rfl
    | j + 3, hf => simp at hf))).mono ?_
  rintro e w2 ⟨rfl, hN⟩
  obtain ⟨hr, hbx, hB⟩ := Nums.res HX.out hN
  clear hN
  go_wp2_with (first
    | (refine wpList_load_row rfl 23 _ rfl (w.heap.size + 1) rfl _ _ _ _ hbx Tryd.underlying23 rfl (by kernel_rfl) ?_)
    | (refine wpList_store_row rfl 23 _ _ rfl w.heap.size (boxA op [3, 4, 2] (numsV 3 s)) rfl rfl _ Z5 hr (by kernel_rfl) rfl (boxA_one _ _ _) ?_))
  refine bodyPost_ret (v := .agg (boxA op [3, 4, 2] (numsV 3 s))) (results_cell_row (p := 4) (by kernel_rfl) _ _ w.heap.size _ _ _ _ (by kernel_rfl) (setRow_heap _ _ _ _ _ _ hr) Tryd.underlying23 rfl (by kernel_rfl)) rfl ⟨rfl, below_setRow hB (Nat.le_refl _) _⟩

set_option maxHeartbeats 4000000 in
set_option maxRecDepth 100000 in
theorem guessed_77 (op : Int) (hsh : sh op = 77) (s : List UInt8) (hs : s.length ≤ 100000) (w : World) (hG : Gl w) :
    Calls Tryd.prog 30 #[.int .i64 op, .string ⟨s.toArray⟩] w fun e w' => e = .returned (.agg (boxA op [1, 4, 2] (numsV 3 s))) ∧ Below w.heap.size w w' := by
  have HS : Hid (sh op = 77) := hsh
  have HG : Hid (Gl w) := hG
  have hz := zeroX
  clear hsh hG
  go_enter Tryd.func30, Tryd.ntmps30
  go_wp2_with fail
  refine (shape_to op 77 HS.out _).mono ?_
  rintro e w1 ⟨rfl, hb1⟩
  have HX : Hid (GuessAt w op w1) := (GuessAt.start w op).below hb1
  clear hb1
  go_wp2_with fail
  refine (numbers_at s hs _ (w.heap.size + 1) w1.heap.size [1, 4, 2] op 3 rfl (by decide) (by decide) (by decide) (HX.out.nums HG.out _ _ _ (fun j f hf => by
    match j, hf with
    | 0, hf => simp at hf; subst hf; rfl
    | 1, hf => simp at hf; subst hf; rfl
    | 2, hf => simp at hf; subst hf; rfl
    | j + 3, hf => simp at hf))).mono ?_
  rintro e w2 ⟨rfl, hN⟩
  obtain ⟨hr, hbx, hB⟩ := Nums.res HX.out hN
  clear hN
  go_wp2_with (first
    | (refine wpList_load_row rfl 23 _ rfl (w.heap.size + 1) rfl _ _ _ _ hbx Tryd.underlying23 rfl (by kernel_rfl) ?_)
    | (refine wpList_store_row rfl 23 _ _ rfl w.heap.size (boxA op [1, 4, 2] (numsV 3 s)) rfl rfl _ Z5 hr (by kernel_rfl) rfl (boxA_one _ _ _) ?_))
  refine bodyPost_ret (v := .agg (boxA op [1, 4, 2] (numsV 3 s))) (results_cell_row (p := 4) (by kernel_rfl) _ _ w.heap.size _ _ _ _ (by kernel_rfl) (setRow_heap _ _ _ _ _ _ hr) Tryd.underlying23 rfl (by kernel_rfl)) rfl ⟨rfl, below_setRow hB (Nat.le_refl _) _⟩

set_option maxHeartbeats 4000000 in
set_option maxRecDepth 100000 in
theorem guessed_73 (op : Int) (hsh : sh op = 73) (s : List UInt8) (hs : s.length ≤ 100000) (w : World) (hG : Gl w) :
    Calls Tryd.prog 30 #[.int .i64 op, .string ⟨s.toArray⟩] w fun e w' => e = .returned (.agg (boxA op [1, 2, 4] (numsV 3 s))) ∧ Below w.heap.size w w' := by
  have HS : Hid (sh op = 73) := hsh
  have HG : Hid (Gl w) := hG
  have hz := zeroX
  clear hsh hG
  go_enter Tryd.func30, Tryd.ntmps30
  go_wp2_with fail
  refine (shape_to op 73 HS.out _).mono ?_
  rintro e w1 ⟨rfl, hb1⟩
  have HX : Hid (GuessAt w op w1) := (GuessAt.start w op).below hb1
  clear hb1
  go_wp2_with fail
  refine (numbers_at s hs _ (w.heap.size + 1) w1.heap.size [1, 2, 4] op 3 rfl (by decide) (by decide) (by decide) (HX.out.nums HG.out _ _ _ (fun j f hf => by
    match j, hf with
    | 0, hf => simp at hf; subst hf; rfl
    | 1, hf => simp at hf; subst hf; rfl
    | 2, hf => simp at hf; subst hf; rfl
    | j + 3, hf => simp at hf))).mono ?_
  rintro e w2 ⟨rfl, hN⟩
  obtain ⟨hr, hbx, hB⟩ := Nums.res HX.out hN
  clear hN
  go_wp2_with (first
    | (refine wpList_load_row rfl 23 _ rfl (w.heap.size + 1) rfl _ _ _ _ hbx Tryd.underlying23 rfl (by kernel_rfl) ?_)
    | (refine wpList_store_row rfl 23 _ _ rfl w.heap.size (boxA op [1, 2, 4] (numsV 3 s)) rfl rfl _ Z5 hr (by kernel_rfl) rfl (boxA_one _ _ _) ?_))
  refine bodyPost_ret (v := .agg (boxA op [1, 2, 4] (numsV 3 s))) (results_cell_row (p := 4) (by kernel_rfl) _ _ w.heap.size _ _ _ _ (by kernel_rfl) (setRow_heap _ _ _ _ _ _ hr) Tryd.underlying23 rfl (by kernel_rfl)) rfl ⟨rfl, below_setRow hB (Nat.le_refl _) _⟩

set_option maxHeartbeats 4000000 in
set_option maxRecDepth 100000 in
theorem guessed_72 (op : Int) (hsh : sh op = 72) (s : List UInt8) (hs : s.length ≤ 100000) (w : World) (hG : Gl w) :
    Calls Tryd.prog 30 #[.int .i64 op, .string ⟨s.toArray⟩] w fun e w' => e = .returned (.agg (boxA op [1, 2, 4] (numsV 3 s))) ∧ Below w.heap.size w w' := by
  have HS : Hid (sh op = 72) := hsh
  have HG : Hid (Gl w) := hG
  have hz := zeroX
  clear hsh hG
  go_enter Tryd.func30, Tryd.ntmps30
  go_wp2_with fail
  refine (shape_to op 72 HS.out _).mono ?_
  rintro e w1 ⟨rfl, hb1⟩
  have HX : Hid (GuessAt w op w1) := (GuessAt.start w op).below hb1
  clear hb1
  go_wp2_with fail
  refine (numbers_at s hs _ (w.heap.size + 1) w1.heap.size [1, 2, 4] op 3 rfl (by decide) (by decide) (by decide) (HX.out.nums HG.out _ _ _ (fun j f hf => by
    match j, hf with
    | 0, hf => simp at hf; subst hf; rfl
    | 1, hf => simp at hf; subst hf; rfl
    | 2, hf => simp at hf; subst hf; rfl
    | j + 3, hf => simp at hf))).mono ?_
  rintro e w2 ⟨rfl, hN⟩
  obtain ⟨hr, hbx, hB⟩ := Nums.res HX.out hN
  clear hN
  go_wp2_with (first
    | (refine wpList_load_row rfl 23 _ rfl (w.heap.size + 1) rfl _ _ _ _ hbx Tryd.underlying23 rfl (by kernel_rfl) ?_)
    | (refine wpList_store_row rfl 23 _ _ rfl w.heap.size (boxA op [1, 2, 4] (numsV 3 s)) rfl rfl _ Z5 hr (by kernel_rfl) rfl (boxA_one _ _ _) ?_))
  refine bodyPost_ret (v := .agg (boxA op [1, 2, 4] (numsV 3 s))) (results_cell_row (p := 4) (by kernel_rfl) _ _ w.heap.size _ _ _ _ (by kernel_rfl) (setRow_heap _ _ _ _ _ _ hr) Tryd.underlying23 rfl (by kernel_rfl)) rfl ⟨rfl, below_setRow hB (Nat.le_refl _) _⟩

set_option maxHeartbeats 4000000 in
set_option maxRecDepth 100000 in
theorem guessed_no (op : Int) (F : Nat) (hsh : sh op = F) (h1 : F ≠ 85) (h2 : F ≠ 74) (h3 : F ≠ 82) (h4 : F ≠ 66) (h5 : F ≠ 83) (h6 : F ≠ 77) (h7 : F ≠ 73) (h8 : F ≠ 72) (s : List UInt8) (w : World) :
    Calls Tryd.prog 30 #[.int .i64 op, .string ⟨s.toArray⟩] w fun e w' => e = .returned (.agg #[.int .i64 op, .int .i64 0, .int .i64 0, .int .i64 0, .int .i64 0]) ∧ Below w.heap.size w w' := by
  have HS : Hid (sh op = F) := hsh
  have hz := zeroX
  have n1 : ((F : Int) == 85) = false := beq_eq_false_iff_ne.2 (by omega)
  have n2 : ((F : Int) == 74) = false := beq_eq_false_iff_ne.2 (by omega)
  have n3 : ((F : Int) == 82) = false := beq_eq_false_iff_ne.2 (by omega)
  have n4 : ((F : Int) == 66) = false := beq_eq_false_iff_ne.2 (by omega)
  have n5 : ((F : Int) == 83) = false := beq_eq_false_iff_ne.2 (by omega)
  have n6 : ((F : Int) == 77) = false := beq_eq_false_iff_ne.2 (by omega)
  have n7 : ((F : Int) == 73) = false := beq_eq_false_iff_ne.2 (by omega)
  have n8 : ((F : Int) == 72) = false := beq_eq_false_iff_ne.2 (by omega)
  clear hsh h1 h2 h3 h4 h5 h6 h7 h8
  go_enter Tryd.func30, Tryd.ntmps30
  go_wp2_with fail
  refine (shape_to op F HS.out _).mono ?_
  rintro e w1 ⟨rfl, hb1⟩
  have HX := (GuessAt.start w op).below hb1
  have hr := HX.res
  have hbx := HX.box
  have hB := HX.low
  clear hb1 HX
  go_wp2_with (first
    | (refine wpList_load_row rfl 23 _ rfl (w.heap.size + 1) rfl _ _ _ _ hbx Tryd.underlying23 rfl (by kernel_rfl) ?_)
    | (refine wpList_store_row rfl 23 _ _ rfl w.heap.size #[.int .i64 op, .int .i64 0, .int .i64 0, .int .i64 0, .int .i64 0] rfl rfl _ Z5 hr (by kernel_rfl) rfl (by kernel_rfl) ?_))
  refine bodyPost_ret (v := .agg #[.int .i64 op, .int .i64 0, .int .i64 0, .int .i64 0, .int .i64 0]) (results_cell_row (p := 4) (by kernel_rfl) _ _ w.heap.size _ _ _ _ (by kernel_rfl) (setRow_heap _ _ _ _ _ _ hr) Tryd.underlying23 rfl (by kernel_rfl)) rfl ⟨rfl, below_setRow hB (Nat.le_refl _) _⟩

theorem look (o a : Nat) (b : Int) (r : List (Nat × Int)) : ((a, b) :: r).lookup o = if o = a then some b else r.lookup o := by
  rw [List.lookup_cons]
  by_cases h : o = a
  · rw [if_pos h, show (o == a) = true from beq_iff_eq.2 h]
  · rw [if_neg h, show (o == a) = false from beq_eq_false_iff_ne.2 h]
theorem box2 (a b : Nat) (vs : List Int) (o : Nat) : boxV [a, b] vs o = if o = a then vs.getD 0 0 else if o = b then vs.getD 1 0 else 0 := by
  unfold boxV
  match vs with
  | [] => by_cases h : o = a <;> simp
  | [x] => simp only [List.zip_cons_cons, List.zip_nil_right, look, List.lookup_nil]; by_cases h : o = a <;> simp [h]
  | x :: y :: r => simp only [List.zip_cons_cons, List.zip_nil_left, look, List.lookup_nil]; (repeat' split) <;> first | rfl | contradiction
theorem box3 (a b c : Nat) (vs : List Int) (o : Nat) : boxV [a, b, c] vs o = if o = a then vs.getD 0 0 else if o = b then vs.getD 1 0 else if o = c then vs.getD 2 0 else 0 := by
  unfold boxV
  match vs with
  | [] => by_cases h : o = a <;> simp
  | [x] => simp only [List.zip_cons_cons, List.zip_nil_right, look, List.lookup_nil]; by_cases h : o = a <;> simp [h]
  | [x, y] => simp only [List.zip_cons_cons, List.zip_nil_right, look, List.lookup_nil]; (repeat' split) <;> first | rfl | contradiction
  | x :: y :: z :: r => simp only [List.zip_cons_cons, List.zip_nil_left, look, List.lookup_nil]; (repeat' split) <;> first | rfl | contradiction
theorem guessed_any (op : Int) (s : List UInt8) (hs : s.length ≤ 100000) (w : World) (hG : Gl w) :
    Calls Tryd.prog 30 #[.int .i64 op, .string ⟨s.toArray⟩] w fun e w' => e = .returned (gs op s).val ∧ Below w.heap.size w w' := by
  by_cases h1 : sh op = 85
  · rw [show (gs op s).val = .agg (boxA op [1, 4] (numsV 2 s)) by unfold gs; rw [if_pos (Or.inl h1)]; unfold boxA; simp [box2]]
    exact guessed_85 op h1 s hs w hG
  by_cases h2 : sh op = 74
  · rw [show (gs op s).val = .agg (boxA op [1, 4] (numsV 2 s)) by unfold gs; rw [if_pos (Or.inr h2)]; unfold boxA; simp [box2]]
    exact guessed_74 op h2 s hs w hG
  by_cases h3 : sh op = 82
  · rw [show (gs op s).val = .agg (boxA op [1, 2, 3] (numsV 3 s)) by unfold gs; rw [if_neg (by omega), if_pos h3]; unfold boxA; simp [box3]]
    exact guessed_82 op h3 s hs w hG
  by_cases h4 : sh op = 66
  · rw [show (gs op s).val = .agg (boxA op [2, 3, 4] (numsV 3 s)) by unfold gs; rw [if_neg (by omega), if_neg h3, if_pos h4]; unfold boxA; simp [box3]]
    exact guessed_66 op h4 s hs w hG
  by_cases h5 : sh op = 83
  · rw [show (gs op s).val = .agg (boxA op [3, 4, 2] (numsV 3 s)) by unfold gs; rw [if_neg (by omega), if_neg h3, if_neg h4, if_pos h5]; unfold boxA; simp [box3]]
    exact guessed_83 op h5 s hs w hG
  by_cases h6 : sh op = 77
  · rw [show (gs op s).val = .agg (boxA op [1, 4, 2] (numsV 3 s)) by unfold gs; rw [if_neg (by omega), if_neg h3, if_neg h4, if_neg h5, if_pos h6]; unfold boxA; simp [box3]]
    exact guessed_77 op h6 s hs w hG
  by_cases h7 : sh op = 73
  · rw [show (gs op s).val = .agg (boxA op [1, 2, 4] (numsV 3 s)) by unfold gs; rw [if_neg (by omega), if_neg h3, if_neg h4, if_neg h5, if_neg h6, if_pos (Or.inl h7)]; unfold boxA; simp [box3]]
    exact guessed_73 op h7 s hs w hG
  by_cases h8 : sh op = 72
  · rw [show (gs op s).val = .agg (boxA op [1, 2, 4] (numsV 3 s)) by unfold gs; rw [if_neg (by omega), if_neg h3, if_neg h4, if_neg h5, if_neg h6, if_pos (Or.inr h8)]; unfold boxA; simp [box3]]
    exact guessed_72 op h8 s hs w hG
  · rw [show (gs op s).val = .agg #[.int .i64 op, .int .i64 0, .int .i64 0, .int .i64 0, .int .i64 0] by unfold gs; rw [if_neg (by omega), if_neg h3, if_neg h4, if_neg h5, if_neg h6, if_neg (by omega)]]
    exact guessed_no op _ rfl h1 h2 h3 h4 h5 h6 h7 h8 s w
end Go.Proofs.YtdjladaefoedfaaDoor
namespace Go.Proofs.YtdjladaefoedfaaDoor
open Go.RowKit Ip As Go.Lib

theorem results_row_tmpA {P : Program} {fn : Func} {p u : Tmp} {ty : TypeId} (h : fn.results = #[.cell p ty, .tmp u]) (tmps : Array Value) (w : World) (g : Nat) (t : TypeId) (cs : Array Value) (fr : Nat × Nat) (d : TypeDesc)
    (hp : tmps.getD p undef = .pointer (some ⟨g, 0, none⟩)) (hg : w.heap[g]? = some (.cells cs t fr))
    (hu : P.underlying ty = some d) (hd : (match d with | .struct _ | .array _ _ => true | _ => false) = true) (hi : (P.info? ty).map (·.size) = some cs.size) :
    (results fn tmps).run P w = .ok (.tuple #[.agg cs, tmps.getD u undef]) w := by
  have hp' : tmps[p]?.getD undef = .pointer (some ⟨g, 0, none⟩) := by simpa using hp
  simp [results, h, hp', asAddr, run_loadVar_row w g t ty cs fr d hg hu hd hi]
/-- While Parse is at work: its answer's box. -/
structure PAt (w W : World) : Prop where
  res : W.heap[w.heap.size]? = some (.cells Z5 23 (0, 0))
  low : Below w.heap.size w W
theorem PAt.lt {w W : World} (h : PAt w W) : w.heap.size < W.heap.size := (Array.getElem?_eq_some_iff.1 h.res).1
theorem PAt.below {w W W' : World} (h : PAt w W) (hb : Below W.heap.size W W') : PAt w W' := by
  have := h.lt
  exact ⟨by rw [hb.block _ (by omega)]; exact h.res, h.low.trans (hb.mono (by omega))⟩
theorem PAt.start (w : World) : PAt w (w.alloc (.cells Z5 23)) := ⟨heap_alloc_new _ _, (Below.refl _ _).alloc (Nat.le_refl _) _⟩
def Ins.cs (x : Ins) : Array Value := #[.int .i64 x.op, .int .i64 x.rd, .int .i64 x.rs1, .int .i64 x.rs2, .int .i64 x.imm]
def psV (l : List UInt8) : Ins := (prs l).getD ⟨0, 0, 0, 0, 0⟩
def psE (l : List UInt8) : Int := if (prs l).isSome = true then 0 else 50
theorem ps_none {l : List UInt8} (h : prs l = none) : psV l = ⟨0, 0, 0, 0, 0⟩ ∧ psE l = 50 := by unfold psV psE; rw [h]; exact ⟨rfl, rfl⟩
theorem ps_some {l : List UInt8} {x : Ins} (h : prs l = some x) : psV l = x ∧ psE l = 0 := by unfold psV psE; rw [h]; exact ⟨rfl, rfl⟩
theorem upTo_len (c : UInt8) (l : List UInt8) : (upTo c l).length ≤ l.length := by unfold upTo; split <;> simp <;> omega
theorem behind_len (c : UInt8) (l : List UInt8) : (behind c l).length ≤ l.length := by unfold behind; split <;> simp <;> omega

set_option maxHeartbeats 4000000 in
set_option maxRecDepth 100000 in
theorem parse_no (s : ByteArray) (hs : s.size ≤ 100000) (hb : byV (upTo 32 s.data.toList) < 0) (w : World) (hG : Gl w) :
    Calls Tryd.prog 16 #[.string s] w fun e w' => e = .returned (.tuple #[.agg Z5, .int .i64 50]) ∧ Below w.heap.size w w' := by
  have HG : Hid (Gl w) := hG
  have hz := zeroX
  clear hG
  go_enter Tryd.func16, Tryd.ntmps16
  go_wp2_with fail
  refine (cut_one s 32 (by omega) _).mono ?_
  rintro e w1 ⟨rfl, hb1⟩
  have HX := (PAt.start w).below hb1
  have hr := HX.res
  clear hb1
  go_wp2_with (first
    | (go_at_call 14; refine (by_any _ _ (HG.out.grow HX.low)).mono ?_; rintro e w2 ⟨rfl, hw⟩; rw [hw]; clear hw w2)
    | (refine wpList_store_row rfl 23 _ _ rfl w.heap.size Z5 rfl rfl _ Z5 hr (by kernel_rfl) rfl (by kernel_rfl) ?_))
  refine bodyPost_ret (v := .tuple #[.agg Z5, .int .i64 50]) (results_row_tmpA (p := 2) (u := 3) (by kernel_rfl) _ _ w.heap.size _ _ _ _ rfl (setRow_heap _ _ _ _ _ _ hr) Tryd.underlying23 rfl (by kernel_rfl)) rfl ⟨rfl, below_setRow HX.low (Nat.le_refl _) _⟩

set_option maxHeartbeats 4000000 in
set_option maxRecDepth 100000 in
theorem parse_bad (s : ByteArray) (hs : s.size ≤ 100000) (hb : ¬ byV (upTo 32 s.data.toList) < 0) (x : Ins) (hx : gs (byV (upTo 32 s.data.toList)) (behind 32 s.data.toList) = x) (hk : x.ok = false) (w : World) (hG : Gl w) :
    Calls Tryd.prog 16 #[.string s] w fun e w' => e = .returned (.tuple #[.agg Z5, .int .i64 50]) ∧ Below w.heap.size w w' := by
  have HG : Hid (Gl w) := hG
  have HX0 : Hid (gs (byV (upTo 32 s.data.toList)) (behind 32 s.data.toList) = x) := hx
  have hz := zeroX
  have hbl := behind_len 32 s.data.toList
  rw [← Lib.size_eq] at hbl
  have e1 : prV x = [] := by unfold prV; rw [hk]; rfl
  have e2 : prE x = 20 := by unfold prE; rw [hk]; rfl
  clear hk
  clear hG hx
  go_enter Tryd.func16, Tryd.ntmps16
  go_wp2_with fail
  refine (cut_one s 32 (by omega) _).mono ?_
  rintro e w1 ⟨rfl, hb1⟩
  have HX := (PAt.start w).below hb1
  clear hb1
  go_wp2_with (first
    | (go_at_call 14; refine (by_any _ _ (HG.out.grow HX.low)).mono ?_; rintro e w2 ⟨rfl, hw⟩; rw [hw]; clear hw w2))
  refine (guessed_any _ _ (by omega) _ (HG.out.grow HX.low)).mono ?_
  rintro e w2 ⟨he, hb2⟩
  rw [show gs (byV (⟨(upTo 32 s.data.toList).toArray⟩ : ByteArray).data.toList) (behind 32 s.data.toList) = x from HX0.out] at he
  subst he
  have HX2 := HX.below hb2
  clear hb2 HX HX0
  cases x with
  | mk op rd rs1 rs2 imm =>
  go_wp2_with fail
  refine (print_any ⟨op, rd, rs1, rs2, imm⟩ _ (HG.out.grow (HX2.below ((Below.refl _ _).alloc (Nat.le_refl _) _)).low)).mono ?_
  rintro e w3 ⟨rfl, hb3⟩
  have hbx : w3.heap[w2.heap.size]? = some (.cells #[.int .i64 op, .int .i64 rd, .int .i64 rs1, .int .i64 rs2, .int .i64 imm] 23 (0, 0)) := by
    rw [hb3.block _ (by simp)]; exact heap_alloc_new _ _
  have HX3 := (HX2.below ((Below.refl _ _).alloc (Nat.le_refl _) _)).below hb3
  have hr := HX3.res
  clear hb3
  rw [e1, e2]
  go_wp2_with (first
    | (refine wpList_load_row rfl 23 _ rfl w2.heap.size rfl _ _ _ _ hbx Tryd.underlying23 rfl (by kernel_rfl) ?_)
    | (refine wpList_store_row rfl 23 _ _ rfl w.heap.size Z5 rfl rfl _ Z5 hr (by kernel_rfl) rfl (by kernel_rfl) ?_))
  refine bodyPost_ret (v := .tuple #[.agg Z5, .int .i64 50]) (results_row_tmpA (p := 2) (u := 3) (by kernel_rfl) _ _ w.heap.size _ _ _ _ rfl (setRow_heap _ _ _ _ _ _ hr) Tryd.underlying23 rfl (by kernel_rfl)) rfl ⟨rfl, below_setRow HX3.low (Nat.le_refl _) _⟩

set_option maxHeartbeats 4000000 in
set_option maxRecDepth 100000 in
theorem parse_other (s : ByteArray) (hs : s.size ≤ 100000) (hb : ¬ byV (upTo 32 s.data.toList) < 0) (x : Ins) (hx : gs (byV (upTo 32 s.data.toList)) (behind 32 s.data.toList) = x) (hk : x.ok = true) (ht : txt x ≠ s.data.toList) (w : World) (hG : Gl w) :
    Calls Tryd.prog 16 #[.string s] w fun e w' => e = .returned (.tuple #[.agg Z5, .int .i64 50]) ∧ Below w.heap.size w w' := by
  have HG : Hid (Gl w) := hG
  have HX0 : Hid (gs (byV (upTo 32 s.data.toList)) (behind 32 s.data.toList) = x) := hx
  have hz := zeroX
  have hbl := behind_len 32 s.data.toList
  rw [← Lib.size_eq] at hbl
  have e1 : prV x = txt x := by unfold prV; rw [hk]; rfl
  have e2 : prE x = 0 := by unfold prE; rw [hk]; rfl
  have hq : (!(txt x == s.toList)) = true := by rw [Lib.toList_data, show (txt x == s.data.toList) = false from beq_eq_false_iff_ne.2 ht]; rfl
  clear hk ht
  clear hG hx
  go_enter Tryd.func16, Tryd.ntmps16
  go_wp2_with fail
  refine (cut_one s 32 (by omega) _).mono ?_
  rintro e w1 ⟨rfl, hb1⟩
  have HX := (PAt.start w).below hb1
  clear hb1
  go_wp2_with (first
    | (go_at_call 14; refine (by_any _ _ (HG.out.grow HX.low)).mono ?_; rintro e w2 ⟨rfl, hw⟩; rw [hw]; clear hw w2))
  refine (guessed_any _ _ (by omega) _ (HG.out.grow HX.low)).mono ?_
  rintro e w2 ⟨he, hb2⟩
  rw [show gs (byV (⟨(upTo 32 s.data.toList).toArray⟩ : ByteArray).data.toList) (behind 32 s.data.toList) = x from HX0.out] at he
  subst he
  have HX2 := HX.below hb2
  clear hb2 HX HX0
  cases x with
  | mk op rd rs1 rs2 imm =>
  go_wp2_with fail
  refine (print_any ⟨op, rd, rs1, rs2, imm⟩ _ (HG.out.grow (HX2.below ((Below.refl _ _).alloc (Nat.le_refl _) _)).low)).mono ?_
  rintro e w3 ⟨rfl, hb3⟩
  have hbx : w3.heap[w2.heap.size]? = some (.cells #[.int .i64 op, .int .i64 rd, .int .i64 rs1, .int .i64 rs2, .int .i64 imm] 23 (0, 0)) := by
    rw [hb3.block _ (by simp)]; exact heap_alloc_new _ _
  have HX3 := (HX2.below ((Below.refl _ _).alloc (Nat.le_refl _) _)).below hb3
  have hr := HX3.res
  clear hb3
  rw [e1, e2]
  go_wp2_with (first
    | (refine wpList_load_row rfl 23 _ rfl w2.heap.size rfl _ _ _ _ hbx Tryd.underlying23 rfl (by kernel_rfl) ?_)
    | (refine wpList_store_row rfl 23 _ _ rfl w.heap.size Z5 rfl rfl _ Z5 hr (by kernel_rfl) rfl (by kernel_rfl) ?_))
  refine bodyPost_ret (v := .tuple #[.agg Z5, .int .i64 50]) (results_row_tmpA (p := 2) (u := 3) (by kernel_rfl) _ _ w.heap.size _ _ _ _ rfl (setRow_heap _ _ _ _ _ _ hr) Tryd.underlying23 rfl (by kernel_rfl)) rfl ⟨rfl, below_setRow HX3.low (Nat.le_refl _) _⟩

set_option maxHeartbeats 4000000 in
set_option maxRecDepth 100000 in
theorem parse_yes (s : ByteArray) (hs : s.size ≤ 100000) (hb : ¬ byV (upTo 32 s.data.toList) < 0) (x : Ins) (hx : gs (byV (upTo 32 s.data.toList)) (behind 32 s.data.toList) = x) (hk : x.ok = true) (ht : txt x = s.data.toList) (w : World) (hG : Gl w) :
    Calls Tryd.prog 16 #[.string s] w fun e w' => e = .returned (.tuple #[.agg #[.int .i64 x.op, .int .i64 x.rd, .int .i64 x.rs1, .int .i64 x.rs2, .int .i64 x.imm], .int .i64 0]) ∧ Below w.heap.size w w' := by
  have HG : Hid (Gl w) := hG
  have HX0 : Hid (gs (byV (upTo 32 s.data.toList)) (behind 32 s.data.toList) = x) := hx
  have hz := zeroX
  have hbl := behind_len 32 s.data.toList
  rw [← Lib.size_eq] at hbl
  have e1 : prV x = txt x := by unfold prV; rw [hk]; rfl
  have e2 : prE x = 0 := by unfold prE; rw [hk]; rfl
  have hq : (!(txt x == s.toList)) = false := by rw [Lib.toList_data, show (txt x == s.data.toList) = true from beq_iff_eq.2 ht]; rfl
  clear hk ht
  clear hG hx
  go_enter Tryd.func16, Tryd.ntmps16
  go_wp2_with fail
  refine (cut_one s 32 (by omega) _).mono ?_
  rintro e w1 ⟨rfl, hb1⟩
  have HX := (PAt.start w).below hb1
  clear hb1
  go_wp2_with (first
    | (go_at_call 14; refine (by_any _ _ (HG.out.grow HX.low)).mono ?_; rintro e w2 ⟨rfl, hw⟩; rw [hw]; clear hw w2))
  refine (guessed_any _ _ (by omega) _ (HG.out.grow HX.low)).mono ?_
  rintro e w2 ⟨he, hb2⟩
  rw [show gs (byV (⟨(upTo 32 s.data.toList).toArray⟩ : ByteArray).data.toList) (behind 32 s.data.toList) = x from HX0.out] at he
  subst he
  have HX2 := HX.below hb2
  clear hb2 HX HX0
  cases x with
  | mk op rd rs1 rs2 imm =>
  go_wp2_with fail
  refine (print_any ⟨op, rd, rs1, rs2, imm⟩ _ (HG.out.grow (HX2.below ((Below.refl _ _).alloc (Nat.le_refl _) _)).low)).mono ?_
  rintro e w3 ⟨rfl, hb3⟩
  have hbx : w3.heap[w2.heap.size]? = some (.cells #[.int .i64 op, .int .i64 rd, .int .i64 rs1, .int .i64 rs2, .int .i64 imm] 23 (0, 0)) := by
    rw [hb3.block _ (by simp)]; exact heap_alloc_new _ _
  have HX3 := (HX2.below ((Below.refl _ _).alloc (Nat.le_refl _) _)).below hb3
  have hr := HX3.res
  clear hb3
  rw [e1, e2]
  go_wp2_with (first
    | (refine wpList_load_row rfl 23 _ rfl w2.heap.size rfl _ _ _ _ hbx Tryd.underlying23 rfl (by kernel_rfl) ?_)
    | (refine wpList_store_row rfl 23 _ _ rfl w.heap.size #[.int .i64 op, .int .i64 rd, .int .i64 rs1, .int .i64 rs2, .int .i64 imm] rfl rfl _ Z5 hr (by kernel_rfl) rfl (by kernel_rfl) ?_))
  refine bodyPost_ret (v := .tuple #[.agg #[.int .i64 op, .int .i64 rd, .int .i64 rs1, .int .i64 rs2, .int .i64 imm], .int .i64 0]) (results_row_tmpA (p := 2) (u := 3) (by kernel_rfl) _ _ w.heap.size _ _ _ _ rfl (setRow_heap _ _ _ _ _ _ hr) Tryd.underlying23 rfl (by kernel_rfl)) rfl ⟨rfl, below_setRow HX3.low (Nat.le_refl _) _⟩
theorem parse_any (s : ByteArray) (hs : s.size ≤ 100000) (w : World) (hG : Gl w) :
    Calls Tryd.prog 16 #[.string s] w fun e w' => e = .returned (.tuple #[(psV s.data.toList).val, .int .i64 (psE s.data.toList)]) ∧ Below w.heap.size w w' := by
  by_cases hb : byV (upTo 32 s.data.toList) < 0
  · have e := ps_none (l := s.data.toList) (by unfold prs; rw [if_pos hb])
    rw [e.1, e.2]; exact parse_no s hs hb w hG
  · cases hk : (gs (byV (upTo 32 s.data.toList)) (behind 32 s.data.toList)).ok
    · have e := ps_none (l := s.data.toList) (by unfold prs; rw [if_neg hb, if_neg (by rw [hk]; simp)])
      rw [e.1, e.2]; exact parse_bad s hs hb _ rfl hk w hG
    · by_cases ht : txt (gs (byV (upTo 32 s.data.toList)) (behind 32 s.data.toList)) = s.data.toList
      · have e := ps_some (l := s.data.toList) (by unfold prs; rw [if_neg hb, if_pos ⟨hk, ht⟩])
        rw [e.1, e.2]; exact parse_yes s hs hb _ rfl hk ht w hG
      · have e := ps_none (l := s.data.toList) (by unfold prs; rw [if_neg hb, if_neg (fun h => ht h.2)])
        rw [e.1, e.2]; exact parse_other s hs hb _ rfl hk ht w hG
end Go.Proofs.YtdjladaefoedfaaDoor
