/-
  Contract of package elf's segment: the segment that a row tells of.
-/
import Derived.Test.YtegfpbffgnpebaaEF
namespace Go.Proofs.Ytegfpbffgnpebaa
open Go.RowKit El Go.Lib
open Classical
set_option linter.unusedSimpArgs false

theorem six {W : World} {b : Nat} {a0 a1 a2 a3 a4 a5 : Value} {t : TypeId} (h : W.heap[b]? = some (.cells #[a0, a1, a2, a3, a4, a5] t (0, 0))) :
    W.cell? ⟨b, 0, none⟩ = some a0 ∧ W.cell? ⟨b, 1, none⟩ = some a1 ∧ W.cell? ⟨b, 2, none⟩ = some a2 ∧ W.cell? ⟨b, 3, none⟩ = some a3 ∧ W.cell? ⟨b, 4, none⟩ = some a4 ∧ W.cell? ⟨b, 5, none⟩ = some a5 := by
  simp [World.cell?, h]
/-- While segment is at work: the row's box, the answer's. -/
structure SegW (w : World) (k pl ad tl si fl : Nat) (W : World) : Prop where
  row : W.heap[w.heap.size]? = some (.cells #[.int .u32 (k : Int), .int .u32 (pl : Int), .int .u32 (ad : Int), .int .u32 (tl : Int), .int .u32 (si : Int), .int .u32 (fl : Int)] 74 (0, 0))
  res : ∃ a b c d, W.heap[w.heap.size + 1]? = some (.cells #[a, b, c, d] 36 (0, 0))
  low : Below w.heap.size w W
theorem SegW.below {w W W' : World} {k pl ad tl si fl : Nat} (h : SegW w k pl ad tl si fl W) (hb : Below W.heap.size W W') : SegW w k pl ad tl si fl W' := by
  obtain ⟨a, b, c, d, hr⟩ := h.res
  exact ⟨keptN hb h.row, ⟨a, b, c, d, keptN hb hr⟩, h.low.trans (hb.mono h.low.size)⟩
theorem SegW.drew {w W : World} {k pl ad tl si fl : Nat} (h : SegW w k pl ad tl si fl W) : SegW w k pl ad tl si fl W.drew := h.below (Below.refl _ W).drew
theorem SegW.put {w W : World} {k pl ad tl si fl : Nat} (h : SegW w k pl ad tl si fl W) (a b c d : Value) : SegW w k pl ad tl si fl (W.setRow (w.heap.size + 1) #[a, b, c, d]) := by
  obtain ⟨a', b', c', d', hr⟩ := h.res
  exact ⟨by rw [setRow_other _ _ _ _ (by omega)]; exact h.row, ⟨a, b, c, d, setRow_heap _ _ _ _ _ _ hr⟩, below_setRowE h.low (by omega) _⟩
theorem SegW.new (w : World) (k pl ad tl si fl : Nat) : SegW w k pl ad tl si fl ((w.alloc (.cells #[.int .u32 (k : Int), .int .u32 (pl : Int), .int .u32 (ad : Int), .int .u32 (tl : Int), .int .u32 (si : Int), .int .u32 (fl : Int)] 74)).alloc (.cells #[.int .u32 0, .string ⟨#[]⟩, .int .i64 0, .int .i64 0] 36)) := by
  refine ⟨?_, ⟨.int .u32 0, .string ⟨#[]⟩, .int .i64 0, .int .i64 0, ?_⟩, ((Below.refl _ w).alloc (Nat.le_refl _) _).alloc (by simp) _⟩
  · rw [Below.heap_alloc _ _ _ (by simp)]; exact heap_alloc_new w _
  · have := heap_alloc_new (w.alloc (.cells #[.int .u32 (k : Int), .int .u32 (pl : Int), .int .u32 (ad : Int), .int .u32 (tl : Int), .int .u32 (si : Int), .int .u32 (fl : Int)] 74)) (.cells #[.int .u32 0, .string ⟨#[]⟩, .int .i64 0, .int .i64 0] 36)
    simpa using this
theorem segment_form (s : List UInt8) (k pl ad tl si fl : Nat) (hn : ¬ (k = 1 ∧ fl ≤ 7 ∧ tl ≤ si)) (w : World) :
    Calls Try.prog 40 #[.string ⟨s.toArray⟩, .agg #[.int .u32 (k : Int), .int .u32 (pl : Int), .int .u32 (ad : Int), .int .u32 (tl : Int), .int .u32 (si : Int), .int .u32 (fl : Int)]] w fun e w' => e = ends 62 .nilIface ∧ Below w.heap.size w w' := by
  have HW := hideE (SegW.new w k pl ad tl si fl)
  by_cases h1 : k = 1
  · subst h1
    by_cases h2 : fl ≤ 7
    · have h3 : ¬ tl ≤ si := fun h => hn ⟨rfl, h2, h⟩
      have d2 : decide ((fl : Int) ≤ 7) = true := decide_eq_true (by omega)
      have d3 : decide ((tl : Int) ≤ (si : Int)) = false := decide_eq_false (by omega)
      go_enter Try.func40, Try.ntmps40
      go_wp2_with (go_at_call 33; refine (insist_no _ _ _).mono ?_; rintro e w1 ⟨rfl, rfl⟩)
      exact ⟨rfl, rfl, HW.out.low⟩
    · have d2 : decide ((fl : Int) ≤ 7) = false := decide_eq_false (by omega)
      go_enter Try.func40, Try.ntmps40
      go_wp2_with (go_at_call 33; refine (insist_no _ _ _).mono ?_; rintro e w1 ⟨rfl, rfl⟩)
      exact ⟨rfl, rfl, HW.out.low⟩
  · have d1 : ((k : Int) == 1) = false := beq_eq_false_iff_ne.2 (by omega)
    go_enter Try.func40, Try.ntmps40
    go_wp2_with (go_at_call 33; refine (insist_no _ _ _).mono ?_; rintro e w1 ⟨rfl, rfl⟩)
    exact ⟨rfl, rfl, HW.out.low⟩
set_option maxRecDepth 100000 in
set_option maxHeartbeats 4000000 in
theorem segment_short (s : List UInt8) (pl ad tl si fl : Nat) (hp : pl < 4294967296) (ha : ad < 4294967296) (ht : tl < 4294967296) (hs : si < 4294967296) (h2 : fl ≤ 7) (h3 : tl ≤ si) (hfit : s.length < pl + tl) (w : World) :
    Calls Try.prog 40 #[.string ⟨s.toArray⟩, .agg #[.int .u32 1, .int .u32 (pl : Int), .int .u32 (ad : Int), .int .u32 (tl : Int), .int .u32 (si : Int), .int .u32 (fl : Int)]] w fun e w' => e = ends 60 .nilIface ∧ Below w.heap.size w w' := by
  have HW := SegW.new w 1 pl ad tl si fl
  have d2 : decide ((fl : Int) ≤ 7) = true := decide_eq_true (by omega)
  have d3 : decide ((tl : Int) ≤ (si : Int)) = true := decide_eq_true (by omega)
  have e1 : IntKind.i64.wrap (pl : Int) = (pl : Int) := wrE (by omega) (by omega)
  have e2 : IntKind.i64.wrap (tl : Int) = (tl : Int) := wrE (by omega) (by omega)
  have e3 : IntKind.i64.wrap (si : Int) = (si : Int) := wrE (by omega) (by omega)
  have e4 : IntKind.i64.wrap (fl : Int) = (fl : Int) := wrE (by omega) (by omega)
  have hadr : ((BitVec.ofNat 32 ad).toNat : Int) = (ad : Int) := by rw [BitVec.toNat_ofNat, Nat.mod_eq_of_lt (by omega)]
  have H9 := hideE HW
  go_enter Try.func40, Try.ntmps40
  go_wp2_with (go_at_call 33; refine (insist_yes _ _).mono ?_; rintro e w1 ⟨rfl, rfl⟩)
  refine wp_region_held_drew (S := SegW w 1 pl ad tl si fl) (by kernel_rfl) HW.drew (fun h0 => ?_)
  refine wpAnyH_takeAt (i := 0) (v := ?_) rfl (by kernel_rfl) (by kernel_rfl) (by kernel_rfl) (fun _ _ _ h => h) (Or.inl ⟨by rfl, ?_⟩) h0 ?_
  rotate_left 1
  · intro w' hS; obtain ⟨x0, x1, x2, x3, x4, x5⟩ := six hS.row; clear hS
    go_simp <;> with_reducible rfl
  try simp only [Act.put, List.setIfInBounds_toArray, List.set_cons_zero, List.set_cons_succ]
  refine wpAnyH_takeAt (i := 1) (v := ?_) rfl (by kernel_rfl) (by kernel_rfl) (by kernel_rfl) (fun _ _ _ h => h) (Or.inl ⟨by rfl, ?_⟩) h0 ?_
  rotate_left 1
  · intro w' hS; obtain ⟨x0, x1, x2, x3, x4, x5⟩ := six hS.row; clear hS
    go_simp <;> with_reducible rfl
  try simp only [Act.put, List.setIfInBounds_toArray, List.set_cons_zero, List.set_cons_succ]
  refine wpAnyH_takeAt (i := 2) (v := ?_) rfl (by kernel_rfl) (by kernel_rfl) (by kernel_rfl) (fun _ _ _ h => h) (Or.inl ⟨by rfl, ?_⟩) h0 ?_
  rotate_left 1
  · intro w' hS; obtain ⟨x0, x1, x2, x3, x4, x5⟩ := six hS.row; clear hS
    go_simp <;> with_reducible rfl
  try simp only [Act.put, List.setIfInBounds_toArray, List.set_cons_zero, List.set_cons_succ]
  refine wpAnyH_takeAt (i := 3) (v := ?_) rfl (by kernel_rfl) (by kernel_rfl) (by kernel_rfl) (fun _ _ _ h => h) (Or.inl ⟨by rfl, ?_⟩) h0 ?_
  rotate_left 1
  · intro w' hS; obtain ⟨x0, x1, x2, x3, x4, x5⟩ := six hS.row; clear hS
    go_simp <;> with_reducible rfl
  try simp only [Act.put, List.setIfInBounds_toArray, List.set_cons_zero, List.set_cons_succ]
  refine wpAnyH_takeAt (i := 4) (v := ?_) rfl (by kernel_rfl) (by kernel_rfl) (by kernel_rfl) (fun _ _ _ h => h) (Or.inl ⟨by rfl, ?_⟩) h0 ?_
  rotate_left 1
  · intro w' hS; obtain ⟨x0, x1, x2, x3, x4, x5⟩ := six hS.row; clear hS
    go_simp <;> with_reducible rfl
  try simp only [Act.put, List.setIfInBounds_toArray, List.set_cons_zero, List.set_cons_succ]
  refine wpAnyH_takeAt (i := 5) (v := .int .i64 (pl : Int)) rfl (by kernel_rfl) (by kernel_rfl) (by kernel_rfl) (fun _ _ _ h => h) (Or.inl ⟨by rfl, ?_⟩) h0 ?_
  · intro w' hS; clear hS
    go_simp
  try simp only [Act.put, List.setIfInBounds_toArray, List.set_cons_zero, List.set_cons_succ]
  refine wpAnyH_takeAt (i := 6) (v := ?_) rfl (by kernel_rfl) (by kernel_rfl) (by kernel_rfl) (fun _ _ _ h => h) (Or.inl ⟨by rfl, ?_⟩) h0 ?_
  rotate_left 1
  · intro w' hS; obtain ⟨x0, x1, x2, x3, x4, x5⟩ := six hS.row; clear hS
    go_simp <;> with_reducible rfl
  try simp only [Act.put, List.setIfInBounds_toArray, List.set_cons_zero, List.set_cons_succ]
  refine wpAnyH_takeAt (i := 7) (v := ?_) rfl (by kernel_rfl) (by kernel_rfl) (by kernel_rfl) (fun _ _ _ h => h) (Or.inl ⟨by rfl, ?_⟩) h0 ?_
  rotate_left 1
  · intro w' hS; obtain ⟨x0, x1, x2, x3, x4, x5⟩ := six hS.row; clear hS
    go_simp <;> with_reducible rfl
  try simp only [Act.put, List.setIfInBounds_toArray, List.set_cons_zero, List.set_cons_succ]
  refine wpAnyH_takeAt (i := 8) (v := .int .i64 (tl : Int)) rfl (by kernel_rfl) (by kernel_rfl) (by kernel_rfl) (fun _ _ _ h => h) (Or.inl ⟨by rfl, ?_⟩) h0 ?_
  · intro w' hS; clear hS
    go_simp
  try simp only [Act.put, List.setIfInBounds_toArray, List.set_cons_zero, List.set_cons_succ]
  refine wpAnyH_takeAt (i := 10) (v := ?_) rfl (by kernel_rfl) (by kernel_rfl) (by kernel_rfl) (fun _ _ _ h => h) (Or.inl ⟨by rfl, ?_⟩) h0 ?_
  rotate_left 1
  · intro w' hS; obtain ⟨x0, x1, x2, x3, x4, x5⟩ := six hS.row; clear hS
    go_simp <;> with_reducible rfl
  try simp only [Act.put, List.setIfInBounds_toArray, List.set_cons_zero, List.set_cons_succ]
  refine wpAnyH_takeAt (i := 11) (v := ?_) rfl (by kernel_rfl) (by kernel_rfl) (by kernel_rfl) (fun _ _ _ h => h) (Or.inl ⟨by rfl, ?_⟩) h0 ?_
  rotate_left 1
  · intro w' hS; obtain ⟨x0, x1, x2, x3, x4, x5⟩ := six hS.row; clear hS
    go_simp <;> with_reducible rfl
  try simp only [Act.put, List.setIfInBounds_toArray, List.set_cons_zero, List.set_cons_succ]
  refine wpAnyH_takeAt (i := 12) (v := .int .i64 (si : Int)) rfl (by kernel_rfl) (by kernel_rfl) (by kernel_rfl) (fun _ _ _ h => h) (Or.inl ⟨by rfl, ?_⟩) h0 ?_
  · intro w' hS; clear hS
    go_simp
  try simp only [Act.put, List.setIfInBounds_toArray, List.set_cons_zero, List.set_cons_succ]
  refine wpAnyH_takeAt (i := 13) (v := ?_) rfl (by kernel_rfl) (by kernel_rfl) (by kernel_rfl) (fun _ _ _ h => h) (Or.inl ⟨by rfl, ?_⟩) h0 ?_
  rotate_left 1
  · intro w' hS; obtain ⟨x0, x1, x2, x3, x4, x5⟩ := six hS.row; clear hS
    go_simp <;> with_reducible rfl
  try simp only [Act.put, List.setIfInBounds_toArray, List.set_cons_zero, List.set_cons_succ]
  refine wpAnyH_takeAt (i := 14) (v := ?_) rfl (by kernel_rfl) (by kernel_rfl) (by kernel_rfl) (fun _ _ _ h => h) (Or.inl ⟨by rfl, ?_⟩) h0 ?_
  rotate_left 1
  · intro w' hS; obtain ⟨x0, x1, x2, x3, x4, x5⟩ := six hS.row; clear hS
    go_simp <;> with_reducible rfl
  try simp only [Act.put, List.setIfInBounds_toArray, List.set_cons_zero, List.set_cons_succ]
  refine wpAnyH_takeAt (i := 15) (v := .int .i64 (fl : Int)) rfl (by kernel_rfl) (by kernel_rfl) (by kernel_rfl) (fun _ _ _ h => h) (Or.inl ⟨by rfl, ?_⟩) h0 ?_
  · intro w' hS; clear hS
    go_simp
  try simp only [Act.put, List.setIfInBounds_toArray, List.set_cons_zero, List.set_cons_succ]
  refine wpAnyH_ready (rs := [9]) (by kernel_rfl) (by simp) (allReady_at rfl (fun K hK => ?_))
  go_simp
  refine (piece_short s pl tl hfit (by omega) (by omega) _).mono ?_
  rintro e w1 ⟨rfl, rfl⟩
  exact ⟨rfl, rfl, h0.low⟩
set_option maxRecDepth 100000 in
set_option maxHeartbeats 4000000 in
theorem segment_ok (s : List UInt8) (pl ad tl si fl : Nat) (hp : pl < 4294967296) (ha : ad < 4294967296) (ht : tl < 4294967296) (hs : si < 4294967296) (h2 : fl ≤ 7) (h3 : tl ≤ si) (hfit : pl + tl ≤ s.length) (hl : s.length ≤ 281474976710656) (w : World) :
    Calls Try.prog 40 #[.string ⟨s.toArray⟩, .agg #[.int .u32 1, .int .u32 (pl : Int), .int .u32 (ad : Int), .int .u32 (tl : Int), .int .u32 (si : Int), .int .u32 (fl : Int)]] w fun e w' => e = ends 0 (segV ⟨BitVec.ofNat 32 ad, (s.drop pl).take tl, (si : Int), (fl : Int)⟩) ∧ Below w.heap.size w w' := by
  have HW := SegW.new w 1 pl ad tl si fl
  have d2 : decide ((fl : Int) ≤ 7) = true := decide_eq_true (by omega)
  have d3 : decide ((tl : Int) ≤ (si : Int)) = true := decide_eq_true (by omega)
  have e1 : IntKind.i64.wrap (pl : Int) = (pl : Int) := wrE (by omega) (by omega)
  have e2 : IntKind.i64.wrap (tl : Int) = (tl : Int) := wrE (by omega) (by omega)
  have e3 : IntKind.i64.wrap (si : Int) = (si : Int) := wrE (by omega) (by omega)
  have e4 : IntKind.i64.wrap (fl : Int) = (fl : Int) := wrE (by omega) (by omega)
  have hadr : ((BitVec.ofNat 32 ad).toNat : Int) = (ad : Int) := by rw [BitVec.toNat_ofNat, Nat.mod_eq_of_lt (by omega)]
  have H9 := hideE HW
  go_enter Try.func40, Try.ntmps40
  go_wp2_with (go_at_call 33; refine (insist_yes _ _).mono ?_; rintro e w1 ⟨rfl, rfl⟩)
  refine wp_region_noPanic ?_
  refine wp_region_held_drew (S := SegW w 1 pl ad tl si fl) (by kernel_rfl) HW.drew (fun h0 => ?_)
  refine wpAnyH_takeAt (i := 0) (v := ?_) rfl (by kernel_rfl) (by kernel_rfl) (by kernel_rfl) (fun _ _ _ h => h) (Or.inl ⟨by rfl, ?_⟩) h0 ?_
  rotate_left 1
  · intro w' hS; obtain ⟨x0, x1, x2, x3, x4, x5⟩ := six hS.row; clear hS
    go_simp <;> with_reducible rfl
  try simp only [Act.put, List.setIfInBounds_toArray, List.set_cons_zero, List.set_cons_succ]
  refine wpAnyH_takeAt (i := 1) (v := ?_) rfl (by kernel_rfl) (by kernel_rfl) (by kernel_rfl) (fun _ _ _ h => h) (Or.inl ⟨by rfl, ?_⟩) h0 ?_
  rotate_left 1
  · intro w' hS; obtain ⟨x0, x1, x2, x3, x4, x5⟩ := six hS.row; clear hS
    go_simp <;> with_reducible rfl
  try simp only [Act.put, List.setIfInBounds_toArray, List.set_cons_zero, List.set_cons_succ]
  refine wpAnyH_takeAt (i := 2) (v := ?_) rfl (by kernel_rfl) (by kernel_rfl) (by kernel_rfl) (fun _ _ _ h => h) (Or.inl ⟨by rfl, ?_⟩) h0 ?_
  rotate_left 1
  · intro w' hS; obtain ⟨x0, x1, x2, x3, x4, x5⟩ := six hS.row; clear hS
    go_simp <;> with_reducible rfl
  try simp only [Act.put, List.setIfInBounds_toArray, List.set_cons_zero, List.set_cons_succ]
  refine wpAnyH_takeAt (i := 3) (v := ?_) rfl (by kernel_rfl) (by kernel_rfl) (by kernel_rfl) (fun _ _ _ h => h) (Or.inl ⟨by rfl, ?_⟩) h0 ?_
  rotate_left 1
  · intro w' hS; obtain ⟨x0, x1, x2, x3, x4, x5⟩ := six hS.row; clear hS
    go_simp <;> with_reducible rfl
  try simp only [Act.put, List.setIfInBounds_toArray, List.set_cons_zero, List.set_cons_succ]
  refine wpAnyH_takeAt (i := 4) (v := ?_) rfl (by kernel_rfl) (by kernel_rfl) (by kernel_rfl) (fun _ _ _ h => h) (Or.inl ⟨by rfl, ?_⟩) h0 ?_
  rotate_left 1
  · intro w' hS; obtain ⟨x0, x1, x2, x3, x4, x5⟩ := six hS.row; clear hS
    go_simp <;> with_reducible rfl
  try simp only [Act.put, List.setIfInBounds_toArray, List.set_cons_zero, List.set_cons_succ]
  refine wpAnyH_takeAt (i := 5) (v := .int .i64 (pl : Int)) rfl (by kernel_rfl) (by kernel_rfl) (by kernel_rfl) (fun _ _ _ h => h) (Or.inl ⟨by rfl, ?_⟩) h0 ?_
  · intro w' hS; clear hS
    go_simp
  try simp only [Act.put, List.setIfInBounds_toArray, List.set_cons_zero, List.set_cons_succ]
  refine wpAnyH_takeAt (i := 6) (v := ?_) rfl (by kernel_rfl) (by kernel_rfl) (by kernel_rfl) (fun _ _ _ h => h) (Or.inl ⟨by rfl, ?_⟩) h0 ?_
  rotate_left 1
  · intro w' hS; obtain ⟨x0, x1, x2, x3, x4, x5⟩ := six hS.row; clear hS
    go_simp <;> with_reducible rfl
  try simp only [Act.put, List.setIfInBounds_toArray, List.set_cons_zero, List.set_cons_succ]
  refine wpAnyH_takeAt (i := 7) (v := ?_) rfl (by kernel_rfl) (by kernel_rfl) (by kernel_rfl) (fun _ _ _ h => h) (Or.inl ⟨by rfl, ?_⟩) h0 ?_
  rotate_left 1
  · intro w' hS; obtain ⟨x0, x1, x2, x3, x4, x5⟩ := six hS.row; clear hS
    go_simp <;> with_reducible rfl
  try simp only [Act.put, List.setIfInBounds_toArray, List.set_cons_zero, List.set_cons_succ]
  refine wpAnyH_takeAt (i := 8) (v := .int .i64 (tl : Int)) rfl (by kernel_rfl) (by kernel_rfl) (by kernel_rfl) (fun _ _ _ h => h) (Or.inl ⟨by rfl, ?_⟩) h0 ?_
  · intro w' hS; clear hS
    go_simp
  try simp only [Act.put, List.setIfInBounds_toArray, List.set_cons_zero, List.set_cons_succ]
  refine wpAnyH_takeAt (i := 10) (v := ?_) rfl (by kernel_rfl) (by kernel_rfl) (by kernel_rfl) (fun _ _ _ h => h) (Or.inl ⟨by rfl, ?_⟩) h0 ?_
  rotate_left 1
  · intro w' hS; obtain ⟨x0, x1, x2, x3, x4, x5⟩ := six hS.row; clear hS
    go_simp <;> with_reducible rfl
  try simp only [Act.put, List.setIfInBounds_toArray, List.set_cons_zero, List.set_cons_succ]
  refine wpAnyH_takeAt (i := 11) (v := ?_) rfl (by kernel_rfl) (by kernel_rfl) (by kernel_rfl) (fun _ _ _ h => h) (Or.inl ⟨by rfl, ?_⟩) h0 ?_
  rotate_left 1
  · intro w' hS; obtain ⟨x0, x1, x2, x3, x4, x5⟩ := six hS.row; clear hS
    go_simp <;> with_reducible rfl
  try simp only [Act.put, List.setIfInBounds_toArray, List.set_cons_zero, List.set_cons_succ]
  refine wpAnyH_takeAt (i := 12) (v := .int .i64 (si : Int)) rfl (by kernel_rfl) (by kernel_rfl) (by kernel_rfl) (fun _ _ _ h => h) (Or.inl ⟨by rfl, ?_⟩) h0 ?_
  · intro w' hS; clear hS
    go_simp
  try simp only [Act.put, List.setIfInBounds_toArray, List.set_cons_zero, List.set_cons_succ]
  refine wpAnyH_takeAt (i := 13) (v := ?_) rfl (by kernel_rfl) (by kernel_rfl) (by kernel_rfl) (fun _ _ _ h => h) (Or.inl ⟨by rfl, ?_⟩) h0 ?_
  rotate_left 1
  · intro w' hS; obtain ⟨x0, x1, x2, x3, x4, x5⟩ := six hS.row; clear hS
    go_simp <;> with_reducible rfl
  try simp only [Act.put, List.setIfInBounds_toArray, List.set_cons_zero, List.set_cons_succ]
  refine wpAnyH_takeAt (i := 14) (v := ?_) rfl (by kernel_rfl) (by kernel_rfl) (by kernel_rfl) (fun _ _ _ h => h) (Or.inl ⟨by rfl, ?_⟩) h0 ?_
  rotate_left 1
  · intro w' hS; obtain ⟨x0, x1, x2, x3, x4, x5⟩ := six hS.row; clear hS
    go_simp <;> with_reducible rfl
  try simp only [Act.put, List.setIfInBounds_toArray, List.set_cons_zero, List.set_cons_succ]
  refine wpAnyH_takeAt (i := 15) (v := .int .i64 (fl : Int)) rfl (by kernel_rfl) (by kernel_rfl) (by kernel_rfl) (fun _ _ _ h => h) (Or.inl ⟨by rfl, ?_⟩) h0 ?_
  · intro w' hS; clear hS
    go_simp
  try simp only [Act.put, List.setIfInBounds_toArray, List.set_cons_zero, List.set_cons_succ]
  refine wpAnyH_ready (rs := [9]) (by kernel_rfl) (by simp) (allReady_at rfl (fun K hK => ?_))
  go_simp
  refine (piece_at s _ _ pl tl rfl rfl hfit hl _).mono ?_
  rintro e w1 ⟨rfl, rfl⟩
  dsimp only
  have h2 := h0
  refine hK.out _ _ h2 (fun _ => ?_)
  clear hK K
  try simp only [Act.put, List.setIfInBounds_toArray, List.set_cons_zero, List.set_cons_succ]
  refine wpAnyH_takeAt (i := 16) (v := ?_) rfl (by kernel_rfl) (by kernel_rfl) (by kernel_rfl) (fun _ _ _ h => h) (Or.inl ⟨by rfl, ?_⟩) h2 ?_
  rotate_left 1
  · intro w' hS; clear hS
    go_simp <;> with_reducible rfl
  try simp only [Act.put, List.setIfInBounds_toArray, List.set_cons_zero, List.set_cons_succ]
  obtain ⟨z0, z1, z2, z3, hz⟩ := h2.res
  refine wpAnyH_ready (rs := [17]) (by kernel_rfl) (by simp) (allReady_at rfl (fun K hK => ?_))
  rw [if_pos (by rfl)]
  refine wp_store_row 36 _ _ rfl (w.heap.size + 1) _ rfl rfl _ _ hz (by kernel_rfl) rfl (by kernel_rfl) ?_
  have h3 := h2.put (.int .u32 (ad : Int)) (.string ⟨((s.drop pl).take tl).toArray⟩) (.int .i64 (si : Int)) (.int .i64 (fl : Int))
  refine hK.out _ _ h3 (fun _ => ?_)
  clear hK K
  try simp only [Act.put, List.setIfInBounds_toArray, List.set_cons_zero, List.set_cons_succ]
  refine wpAnyH_done (by kernel_rfl) ?_ _
  refine NoPanic.normal ?_
  go_wp2_with fail
  exact bodyPost_ret (results_cell_row (p := 4) (by kernel_rfl) _ _ (w.heap.size + 1) _ _ _ _ rfl (setRow_heap _ _ _ _ _ _ hz) Try.underlying36 rfl (by kernel_rfl)) rfl ⟨by rw [ends_zero]; unfold segV; rw [hadr], h3.low⟩
end Go.Proofs.Ytegfpbffgnpebaa
