/-
  Contracts of package elf: a segment that may be; two that are apart.
-/
import Derived.Test.YtkfomhllaogplaaEB
import Derived.Test.YtkfomhllaogplaaHH
import Derived.Lib.Hide
import Derived.Deep.LoopGhost
import Derived.Laws.NewBlocks
namespace Go.Proofs.Ytkfomhllaogplaa
open Go.RowKit El Go.Lib
open Classical
set_option linter.unusedSimpArgs false

def segV (g : Seg) : Value := .agg #[.int .u32 (g.addr.toNat : Int), .string ⟨g.data.toArray⟩, .int .i64 g.size, .int .i64 g.flags]
/-- A segment whose size is a number of the machine's. -/
def Fits (g : Seg) : Prop := -9223372036854775808 ≤ g.size ∧ g.size ≤ 9223372036854775807
theorem hideE {p : Prop} (h : p) : Hid p := h
theorem retb {a b : Bool} (h : a = b) : Ending.returned (.bool a) = .returned (.bool b) := by rw [h]
theorem wrE {n : Int} (h0 : -9223372036854775808 ≤ n) (h1 : n ≤ 9223372036854775807) : IntKind.i64.wrap n = n := by
  rw [IntKind.wrap_i64]; omega
theorem keptE {B : Nat} {W W' : World} {g : Nat} {o : Obj} (hb : Below B W W') (hg : g < B) (h : W.heap[g]? = some o) : W'.heap[g]? = some o := by
  rw [hb.block _ hg]; exact h
theorem keptN {W W' : World} {g : Nat} {o : Obj} (hb : Below W.heap.size W W') (h : W.heap[g]? = some o) : W'.heap[g]? = some o :=
  keptE hb (Array.getElem?_eq_some_iff.1 h).1 h
theorem four {W : World} {b : Nat} {a0 a1 a2 a3 : Value} {t : TypeId} (h : W.heap[b]? = some (.cells #[a0, a1, a2, a3] t (0, 0))) :
    (W.cell? ⟨b, 0, none⟩ = some a0 ∧ W.cell? ⟨b, 1, none⟩ = some a1 ∧ W.cell? ⟨b, 2, none⟩ = some a2 ∧ W.cell? ⟨b, 3, none⟩ = some a3) ∧
    (W.frozen? ⟨b, 0, none⟩ = false ∧ W.frozen? ⟨b, 1, none⟩ = false ∧ W.frozen? ⟨b, 2, none⟩ = false ∧ W.frozen? ⟨b, 3, none⟩ = false) := by
  simp [World.cell?, World.frozen?, h]
theorem behind_any (a : BitVec 32) (d : ByteArray) (n f : Int) (h0 : 0 ≤ n) (h1 : n ≤ 9223372036854775807) (w : World) :
    Calls Try.prog 68 #[.agg #[.int .u32 (a.toNat : Int), .string d, .int .i64 n, .int .i64 f]] w fun e w' => e = .returned (.int .u64 ((a.toNat : Int) + n)) ∧ Below w.heap.size w w' := by
  have := a.isLt
  go_enter Try.func68, Try.ntmps68
  go_wp2
  go_ret
  exact ⟨rfl, (Below.refl _ w).alloc (Nat.le_refl _) _⟩
set_option maxHeartbeats 2000000 in
theorem mayBe_any (g : Seg) (hg : Fits g) (w : World) :
    Calls Try.prog 60 #[segV g] w fun e w' => e = .returned (.bool (decide g.may)) ∧ Below w.heap.size w w' := by
  cases g with
  | mk a d n f =>
  obtain ⟨hf0, hf1⟩ := hg
  simp only at hf0 hf1
  simp only [segV]
  have hb0 : Below w.heap.size w (w.alloc (.cells #[.int .u32 (a.toNat : Int), .string ⟨d.toArray⟩, .int .i64 n, .int .i64 f] 42)) := (Below.refl _ w).alloc (Nat.le_refl _) _
  by_cases h1 : 1 ≤ n
  · by_cases h2 : n ≤ 16777216
    · by_cases h3 : (d.length : Int) ≤ n
      · by_cases h4 : 0 ≤ f
        · by_cases h5 : f ≤ 7
          · have hm : Hid (decide ((a.toNat : Int) + n ≤ 4294967296) = decide (Seg.mk a d n f).may) := by
              exact decide_eq_decide.2 ⟨fun h => ⟨h1, h2, h3, h4, h5, h⟩, fun h => h.2.2.2.2.2⟩
            go_enter Try.func60, Try.ntmps60
            go_wp2_with (go_at_call 68; refine (behind_any a _ n f (by omega) hf1 _).mono ?_; rintro e w1 ⟨rfl, hb1⟩)
            go_ret
            exact ⟨retb hm.out, hb0.trans (hb1.mono (by simp))⟩
          · have hm : decide (Seg.mk a d n f).may = false := decide_eq_false (fun h => h5 h.2.2.2.2.1)
            go_enter Try.func60, Try.ntmps60
            go_wp2
            go_ret
            exact ⟨rfl, hb0⟩
        · have hm : decide (Seg.mk a d n f).may = false := decide_eq_false (fun h => h4 h.2.2.2.1)
          go_enter Try.func60, Try.ntmps60
          go_wp2
          go_ret
          exact ⟨rfl, hb0⟩
      · have hm : decide (Seg.mk a d n f).may = false := decide_eq_false (fun h => h3 h.2.2.1)
        go_enter Try.func60, Try.ntmps60
        go_wp2
        go_ret
        exact ⟨rfl, hb0⟩
    · have hm : decide (Seg.mk a d n f).may = false := decide_eq_false (fun h => h2 h.2.1)
      go_enter Try.func60, Try.ntmps60
      go_wp2
      go_ret
      exact ⟨rfl, hb0⟩
  · have hm : decide (Seg.mk a d n f).may = false := decide_eq_false (fun h => h1 h.1)
    go_enter Try.func60, Try.ntmps60
    go_wp2
    go_ret
    exact ⟨rfl, hb0⟩
theorem gen_world {P : World → Prop} {W : World} (I : World → Prop) (h : I W) (k : ∀ W', I W' → P W') : P W := k W h
/-- Two segments in boxes. -/
structure TwoSeg (w : World) (g h : Seg) (W : World) : Prop where
  b1 : W.heap[w.heap.size]? = some (.cells #[.int .u32 (g.addr.toNat : Int), .string ⟨g.data.toArray⟩, .int .i64 g.size, .int .i64 g.flags] 42 (0, 0))
  b2 : W.heap[w.heap.size + 1]? = some (.cells #[.int .u32 (h.addr.toNat : Int), .string ⟨h.data.toArray⟩, .int .i64 h.size, .int .i64 h.flags] 42 (0, 0))
  low : Below w.heap.size w W
theorem TwoSeg.new (w : World) (g h : Seg) : TwoSeg w g h ((w.alloc (.cells #[.int .u32 (g.addr.toNat : Int), .string ⟨g.data.toArray⟩, .int .i64 g.size, .int .i64 g.flags] 42)).alloc (.cells #[.int .u32 (h.addr.toNat : Int), .string ⟨h.data.toArray⟩, .int .i64 h.size, .int .i64 h.flags] 42)) := by
  refine ⟨?_, ?_, ((Below.refl _ w).alloc (Nat.le_refl _) _).alloc (by simp) _⟩
  · rw [Below.heap_alloc _ _ _ (by simp)]; exact heap_alloc_new w _
  · have := heap_alloc_new (w.alloc (.cells #[.int .u32 (g.addr.toNat : Int), .string ⟨g.data.toArray⟩, .int .i64 g.size, .int .i64 g.flags] 42)) (.cells #[.int .u32 (h.addr.toNat : Int), .string ⟨h.data.toArray⟩, .int .i64 h.size, .int .i64 h.flags] 42)
    simpa using this
theorem TwoSeg.below {w W W' : World} {g h : Seg} (x : TwoSeg w g h W) (hb : Below W.heap.size W W') : TwoSeg w g h W' := ⟨keptN hb x.b1, keptN hb x.b2, x.low.trans (hb.mono x.low.size)⟩
theorem TwoSeg.drew {w W : World} {g h : Seg} (x : TwoSeg w g h W) : TwoSeg w g h W.drew := x.below (Below.refl _ W).drew
set_option maxRecDepth 100000 in
set_option maxHeartbeats 4000000 in
theorem apart_any (g h : Seg) (hg : g.may) (hh : h.may) (w : World) :
    Calls Try.prog 61 #[segV g, segV h] w fun e w' => e = .returned (.bool (decide (g.apart h))) ∧ Below w.heap.size w w' := by
  cases g with
  | mk a d n f =>
  cases h with
  | mk b c m k =>
  obtain ⟨g1, g2, g3, g4, g5, g6⟩ := hg
  obtain ⟨k1, k2, k3, k4, k5, k6⟩ := hh
  simp only at g1 g2 g3 g4 g5 g6 k1 k2 k3 k4 k5 k6
  simp only [segV]
  have hal := a.isLt
  have hbl := b.isLt
  have hua : IntKind.u64.wrap (a.toNat : Int) = (a.toNat : Int) := by show (a.toNat : Int) % 18446744073709551616 = (a.toNat : Int); omega
  have hub : IntKind.u64.wrap (b.toNat : Int) = (b.toNat : Int) := by show (b.toNat : Int) % 18446744073709551616 = (b.toNat : Int); omega
  by_cases h1 : (a.toNat : Int) + n ≤ (b.toNat : Int)
  · have hm : Hid (decide ((Seg.mk a d n f).apart ⟨b, c, m, k⟩) = true) := decide_eq_true (.inl h1)
    have h1d : decide ((a.toNat : Int) + n ≤ (b.toNat : Int)) = true := decide_eq_true h1
    go_enter Try.func61, Try.ntmps61
    go_wp2_with fail
    refine wp_region_noPanic ?_
    refine wp_region_held_drew (S := TwoSeg w ⟨a, d, n, f⟩ ⟨b, c, m, k⟩) (by kernel_rfl) (TwoSeg.new w _ _).drew (fun h0 => ?_)
    refine wpAnyH_takeAt (i := 0) (v := ?_) rfl (by kernel_rfl) (by kernel_rfl) (by kernel_rfl) (fun _ _ _ h => h) (Or.inl ⟨by rfl, ?_⟩) h0 ?_
    rotate_left 1
    · intro w' hS; obtain ⟨⟨x0, x1, x2, x3⟩, _⟩ := four hS.b1; obtain ⟨⟨y0, y1, y2, y3⟩, _⟩ := four hS.b2; simp only at x0 x1 x2 x3 y0 y1 y2 y3; clear hS
      go_simp <;> with_reducible rfl
    try simp only [Act.put, List.setIfInBounds_toArray, List.set_cons_zero, List.set_cons_succ]
    refine wpAnyH_takeAt (i := 2) (v := ?_) rfl (by kernel_rfl) (by kernel_rfl) (by kernel_rfl) (fun _ _ _ h => h) (Or.inl ⟨by rfl, ?_⟩) h0 ?_
    rotate_left 1
    · intro w' hS; obtain ⟨⟨x0, x1, x2, x3⟩, _⟩ := four hS.b1; obtain ⟨⟨y0, y1, y2, y3⟩, _⟩ := four hS.b2; simp only at x0 x1 x2 x3 y0 y1 y2 y3; clear hS
      go_simp <;> with_reducible rfl
    try simp only [Act.put, List.setIfInBounds_toArray, List.set_cons_zero, List.set_cons_succ]
    refine wpAnyH_takeAt (i := 3) (v := ?_) rfl (by kernel_rfl) (by kernel_rfl) (by kernel_rfl) (fun _ _ _ h => h) (Or.inl ⟨by rfl, ?_⟩) h0 ?_
    rotate_left 1
    · intro w' hS; obtain ⟨⟨x0, x1, x2, x3⟩, _⟩ := four hS.b1; obtain ⟨⟨y0, y1, y2, y3⟩, _⟩ := four hS.b2; simp only at x0 x1 x2 x3 y0 y1 y2 y3; clear hS
      go_simp <;> with_reducible rfl
    try simp only [Act.put, List.setIfInBounds_toArray, List.set_cons_zero, List.set_cons_succ]
    refine wpAnyH_takeAt (i := 4) (v := .int .u64 (b.toNat : Int)) rfl (by kernel_rfl) (by kernel_rfl) (by kernel_rfl) (fun _ _ _ h => h) (Or.inl ⟨by rfl, ?_⟩) h0 ?_
    · intro w' hS; clear hS
      go_simp
    try simp only [Act.put, List.setIfInBounds_toArray, List.set_cons_zero, List.set_cons_succ]
    refine wpAnyH_ready (rs := [1]) (by kernel_rfl) (by simp) (allReady_at rfl (fun K hK => ?_))
    go_simp
    refine (behind_any _ _ _ _ (by omega) (by omega) _).mono ?_
    rintro e w1 ⟨rfl, hb1⟩
    dsimp only
    have h2 : TwoSeg w ⟨a, d, n, f⟩ ⟨b, c, m, k⟩ w1 := h0.below hb1
    refine hK.out _ _ h2 (fun _ => ?_)
    clear hK K
    try simp only [Act.put, List.setIfInBounds_toArray, List.set_cons_zero, List.set_cons_succ]
    refine wpAnyH_takeAt (i := 5) (v := ?_) rfl (by kernel_rfl) (by kernel_rfl) (by kernel_rfl) (fun _ _ _ h => h) (Or.inl ⟨by rfl, ?_⟩) h2 ?_
    rotate_left 1
    · intro w' hS; clear hS
      go_simp <;> with_reducible rfl
    try simp only [Act.put, List.setIfInBounds_toArray, List.set_cons_zero, List.set_cons_succ]
    refine wpAnyH_takeAt (i := 6) (v := ?_) rfl (by kernel_rfl) (by kernel_rfl) (by kernel_rfl) (fun _ _ _ h => h) (Or.inl ⟨by rfl, ?_⟩) h2 ?_
    rotate_left 1
    · intro w' hS; clear hS
      go_simp <;> with_reducible rfl
    try simp only [Act.put, List.setIfInBounds_toArray, List.set_cons_zero, List.set_cons_succ]
    refine wpAnyH_takeAt (i := 7) (v := undef) rfl (by kernel_rfl) (by kernel_rfl) (by kernel_rfl) (fun _ _ _ h => h) (Or.inr ⟨by rfl, rfl⟩) h2 ?_
    try simp only [Act.put, List.setIfInBounds_toArray, List.set_cons_zero, List.set_cons_succ]
    refine wpAnyH_takeAt (i := 8) (v := undef) rfl (by kernel_rfl) (by kernel_rfl) (by kernel_rfl) (fun _ _ _ h => h) (Or.inr ⟨by rfl, rfl⟩) h2 ?_
    try simp only [Act.put, List.setIfInBounds_toArray, List.set_cons_zero, List.set_cons_succ]
    refine wpAnyH_takeAt (i := 9) (v := undef) rfl (by kernel_rfl) (by kernel_rfl) (by kernel_rfl) (fun _ _ _ h => h) (Or.inr ⟨by rfl, rfl⟩) h2 ?_
    try simp only [Act.put, List.setIfInBounds_toArray, List.set_cons_zero, List.set_cons_succ]
    refine wpAnyH_takeAt (i := 10) (v := undef) rfl (by kernel_rfl) (by kernel_rfl) (by kernel_rfl) (fun _ _ _ h => h) (Or.inr ⟨by rfl, rfl⟩) h2 ?_
    try simp only [Act.put, List.setIfInBounds_toArray, List.set_cons_zero, List.set_cons_succ]
    refine wpAnyH_takeAt (i := 11) (v := undef) rfl (by kernel_rfl) (by kernel_rfl) (by kernel_rfl) (fun _ _ _ h => h) (Or.inr ⟨by rfl, rfl⟩) h2 ?_
    try simp only [Act.put, List.setIfInBounds_toArray, List.set_cons_zero, List.set_cons_succ]
    refine wpAnyH_takeAt (i := 12) (v := undef) rfl (by kernel_rfl) (by kernel_rfl) (by kernel_rfl) (fun _ _ _ h => h) (Or.inr ⟨by rfl, rfl⟩) h2 ?_
    try simp only [Act.put, List.setIfInBounds_toArray, List.set_cons_zero, List.set_cons_succ]
    refine wpAnyH_takeAt (i := 13) (v := ?_) rfl (by kernel_rfl) (by kernel_rfl) (by kernel_rfl) (fun _ _ _ h => h) (Or.inl ⟨by rfl, ?_⟩) h2 ?_
    rotate_left 1
    · intro w' hS; clear hS
      go_simp <;> with_reducible rfl
    try simp only [Act.put, List.setIfInBounds_toArray, List.set_cons_zero, List.set_cons_succ]
    refine wpAnyH_takeAt (i := 14) (v := ?_) rfl (by kernel_rfl) (by kernel_rfl) (by kernel_rfl) (fun _ _ _ h => h) (Or.inl ⟨by rfl, ?_⟩) h2 ?_
    rotate_left 1
    · intro w' hS; clear hS
      go_simp <;> with_reducible rfl
    try simp only [Act.put, List.setIfInBounds_toArray, List.set_cons_zero, List.set_cons_succ]
    refine wpAnyH_done (by kernel_rfl) ?_ _
    refine NoPanic.normal ?_
    go_wp2_with fail
    go_ret
    exact ⟨retb hm.out.symm, h2.low⟩
  · have hm : Hid (decide ((b.toNat : Int) + m ≤ (a.toNat : Int)) = decide ((Seg.mk a d n f).apart ⟨b, c, m, k⟩)) := decide_eq_decide.2 ⟨fun h => .inr h, fun h => h.resolve_left h1⟩
    have h1d : decide ((a.toNat : Int) + n ≤ (b.toNat : Int)) = false := decide_eq_false h1
    go_enter Try.func61, Try.ntmps61
    go_wp2_with fail
    refine wp_region_noPanic ?_
    refine wp_region_held_drew (S := TwoSeg w ⟨a, d, n, f⟩ ⟨b, c, m, k⟩) (by kernel_rfl) (TwoSeg.new w _ _).drew (fun h0 => ?_)
    refine wpAnyH_takeAt (i := 0) (v := ?_) rfl (by kernel_rfl) (by kernel_rfl) (by kernel_rfl) (fun _ _ _ h => h) (Or.inl ⟨by rfl, ?_⟩) h0 ?_
    rotate_left 1
    · intro w' hS; obtain ⟨⟨x0, x1, x2, x3⟩, _⟩ := four hS.b1; obtain ⟨⟨y0, y1, y2, y3⟩, _⟩ := four hS.b2; simp only at x0 x1 x2 x3 y0 y1 y2 y3; clear hS
      go_simp <;> with_reducible rfl
    try simp only [Act.put, List.setIfInBounds_toArray, List.set_cons_zero, List.set_cons_succ]
    refine wpAnyH_takeAt (i := 2) (v := ?_) rfl (by kernel_rfl) (by kernel_rfl) (by kernel_rfl) (fun _ _ _ h => h) (Or.inl ⟨by rfl, ?_⟩) h0 ?_
    rotate_left 1
    · intro w' hS; obtain ⟨⟨x0, x1, x2, x3⟩, _⟩ := four hS.b1; obtain ⟨⟨y0, y1, y2, y3⟩, _⟩ := four hS.b2; simp only at x0 x1 x2 x3 y0 y1 y2 y3; clear hS
      go_simp <;> with_reducible rfl
    try simp only [Act.put, List.setIfInBounds_toArray, List.set_cons_zero, List.set_cons_succ]
    refine wpAnyH_takeAt (i := 3) (v := ?_) rfl (by kernel_rfl) (by kernel_rfl) (by kernel_rfl) (fun _ _ _ h => h) (Or.inl ⟨by rfl, ?_⟩) h0 ?_
    rotate_left 1
    · intro w' hS; obtain ⟨⟨x0, x1, x2, x3⟩, _⟩ := four hS.b1; obtain ⟨⟨y0, y1, y2, y3⟩, _⟩ := four hS.b2; simp only at x0 x1 x2 x3 y0 y1 y2 y3; clear hS
      go_simp <;> with_reducible rfl
    try simp only [Act.put, List.setIfInBounds_toArray, List.set_cons_zero, List.set_cons_succ]
    refine wpAnyH_takeAt (i := 4) (v := .int .u64 (b.toNat : Int)) rfl (by kernel_rfl) (by kernel_rfl) (by kernel_rfl) (fun _ _ _ h => h) (Or.inl ⟨by rfl, ?_⟩) h0 ?_
    · intro w' hS; clear hS
      go_simp
    try simp only [Act.put, List.setIfInBounds_toArray, List.set_cons_zero, List.set_cons_succ]
    refine wpAnyH_ready (rs := [1]) (by kernel_rfl) (by simp) (allReady_at rfl (fun K hK => ?_))
    go_simp
    refine (behind_any _ _ _ _ (by omega) (by omega) _).mono ?_
    rintro e w1 ⟨rfl, hb1⟩
    dsimp only
    have h2 : TwoSeg w ⟨a, d, n, f⟩ ⟨b, c, m, k⟩ w1 := h0.below hb1
    refine hK.out _ _ h2 (fun _ => ?_)
    clear hK K
    try simp only [Act.put, List.setIfInBounds_toArray, List.set_cons_zero, List.set_cons_succ]
    refine wpAnyH_takeAt (i := 5) (v := ?_) rfl (by kernel_rfl) (by kernel_rfl) (by kernel_rfl) (fun _ _ _ h => h) (Or.inl ⟨by rfl, ?_⟩) h2 ?_
    rotate_left 1
    · intro w' hS; clear hS
      go_simp <;> with_reducible rfl
    try simp only [Act.put, List.setIfInBounds_toArray, List.set_cons_zero, List.set_cons_succ]
    refine wpAnyH_takeAt (i := 6) (v := ?_) rfl (by kernel_rfl) (by kernel_rfl) (by kernel_rfl) (fun _ _ _ h => h) (Or.inl ⟨by rfl, ?_⟩) h2 ?_
    rotate_left 1
    · intro w' hS; clear hS
      go_simp <;> with_reducible rfl
    try simp only [Act.put, List.setIfInBounds_toArray, List.set_cons_zero, List.set_cons_succ]
    refine wpAnyH_takeAt (i := 7) (v := ?_) rfl (by kernel_rfl) (by kernel_rfl) (by kernel_rfl) (fun _ _ _ h => h) (Or.inl ⟨by rfl, ?_⟩) h2 ?_
    rotate_left 1
    · intro w' hS; obtain ⟨⟨x0, x1, x2, x3⟩, _⟩ := four hS.b1; obtain ⟨⟨y0, y1, y2, y3⟩, _⟩ := four hS.b2; simp only at x0 x1 x2 x3 y0 y1 y2 y3; clear hS
      go_simp <;> with_reducible rfl
    try simp only [Act.put, List.setIfInBounds_toArray, List.set_cons_zero, List.set_cons_succ]
    refine wpAnyH_takeAt (i := 9) (v := ?_) rfl (by kernel_rfl) (by kernel_rfl) (by kernel_rfl) (fun _ _ _ h => h) (Or.inl ⟨by rfl, ?_⟩) h2 ?_
    rotate_left 1
    · intro w' hS; obtain ⟨⟨x0, x1, x2, x3⟩, _⟩ := four hS.b1; obtain ⟨⟨y0, y1, y2, y3⟩, _⟩ := four hS.b2; simp only at x0 x1 x2 x3 y0 y1 y2 y3; clear hS
      go_simp <;> with_reducible rfl
    try simp only [Act.put, List.setIfInBounds_toArray, List.set_cons_zero, List.set_cons_succ]
    refine wpAnyH_takeAt (i := 10) (v := ?_) rfl (by kernel_rfl) (by kernel_rfl) (by kernel_rfl) (fun _ _ _ h => h) (Or.inl ⟨by rfl, ?_⟩) h2 ?_
    rotate_left 1
    · intro w' hS; obtain ⟨⟨x0, x1, x2, x3⟩, _⟩ := four hS.b1; obtain ⟨⟨y0, y1, y2, y3⟩, _⟩ := four hS.b2; simp only at x0 x1 x2 x3 y0 y1 y2 y3; clear hS
      go_simp <;> with_reducible rfl
    try simp only [Act.put, List.setIfInBounds_toArray, List.set_cons_zero, List.set_cons_succ]
    refine wpAnyH_takeAt (i := 11) (v := .int .u64 (a.toNat : Int)) rfl (by kernel_rfl) (by kernel_rfl) (by kernel_rfl) (fun _ _ _ h => h) (Or.inl ⟨by rfl, ?_⟩) h2 ?_
    · intro w' hS; clear hS
      go_simp
    try simp only [Act.put, List.setIfInBounds_toArray, List.set_cons_zero, List.set_cons_succ]
    refine wpAnyH_ready (rs := [8]) (by kernel_rfl) (by simp) (allReady_at rfl (fun K hK => ?_))
    go_simp
    refine (behind_any _ _ _ _ (by omega) (by omega) _).mono ?_
    rintro e w2 ⟨rfl, hb2⟩
    dsimp only
    have h3 : TwoSeg w ⟨a, d, n, f⟩ ⟨b, c, m, k⟩ w2 := h2.below hb2
    refine hK.out _ _ h3 (fun _ => ?_)
    clear hK K
    try simp only [Act.put, List.setIfInBounds_toArray, List.set_cons_zero, List.set_cons_succ]
    refine wpAnyH_takeAt (i := 12) (v := ?_) rfl (by kernel_rfl) (by kernel_rfl) (by kernel_rfl) (fun _ _ _ h => h) (Or.inl ⟨by rfl, ?_⟩) h3 ?_
    rotate_left 1
    · intro w' hS; clear hS
      go_simp <;> with_reducible rfl
    try simp only [Act.put, List.setIfInBounds_toArray, List.set_cons_zero, List.set_cons_succ]
    refine wpAnyH_takeAt (i := 13) (v := ?_) rfl (by kernel_rfl) (by kernel_rfl) (by kernel_rfl) (fun _ _ _ h => h) (Or.inl ⟨by rfl, ?_⟩) h3 ?_
    rotate_left 1
    · intro w' hS; clear hS
      go_simp <;> with_reducible rfl
    try simp only [Act.put, List.setIfInBounds_toArray, List.set_cons_zero, List.set_cons_succ]
    refine wpAnyH_takeAt (i := 14) (v := ?_) rfl (by kernel_rfl) (by kernel_rfl) (by kernel_rfl) (fun _ _ _ h => h) (Or.inl ⟨by rfl, ?_⟩) h3 ?_
    rotate_left 1
    · intro w' hS; clear hS
      go_simp <;> with_reducible rfl
    try simp only [Act.put, List.setIfInBounds_toArray, List.set_cons_zero, List.set_cons_succ]
    refine wpAnyH_done (by kernel_rfl) ?_ _
    refine NoPanic.normal ?_
    go_wp2_with fail
    go_ret
    exact ⟨retb hm.out, h3.low⟩
end Go.Proofs.Ytkfomhllaogplaa
