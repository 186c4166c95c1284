/-
  The library's IndexRune at a rune that is no ASCII, and its IndexAny at every text: the first byte that is a digit or '-'.
  The library's IndexAny at every text of few bytes and of many; its Cut at one byte.
  The library's Cut at one byte, its Atoi; contract of package asm's numbers: the first numbers of a text, each into its place.
  Contract of package asm's numbers: the first numbers of a text, each into its place.
-/
import Derived.Lib.OthersKept
import Derived.Laws.RangeAny
import Derived.Deep.LoopGhost
import Derived.WalkMore
import Derived.Deep.RegionHeld3
import Derived.Test.YtdjladaefoedfaaDoorZA2
import Derived.Test.YtdjladaefoedfaaDoorZk
namespace Go.Proofs.YtdjladaefoedfaaDoor
open Go.RowKit Ip As Go.Lib

abbrev DM : ByteArray := ⟨#[45, 48, 49, 50, 51, 52, 53, 54, 55, 56, 57]⟩
theorem dm_ascii (i : Nat) (h : i < DM.size) : (DM[i]'h).toNat < 128 ∧ (DM[i]'h).toNat ≠ 65533 := by
  have all : ∀ i : Fin 11, (DM.data.toList.getD i.val 0).toNat < 58 := by decide +kernel
  have := all ⟨i, h⟩
  have e : DM.data.toList.getD i 0 = DM[i]'h := by
    rw [List.getD_eq_getElem?_getD, Lib.data_getElem? DM i h]; rfl
  simp only [e] at this; omega

set_option maxHeartbeats 4000000 in
set_option maxRecDepth 1000000 in
/-- The rune that stands for what is none. -/
theorem indexRune_err (s : ByteArray) (hs : ∀ i (h : i < s.size), (s[i]'h).toNat < 128) (w : World) : Calls Tryd.prog 67 #[.string s, .int .i32 65533] w fun e w' => e = .returned (.int .i64 (-1)) ∧ Below w.heap.size w w' := by
  have HS : Hid (∀ i (h : i < s.size), (s[i]'h).toNat < 128) := hs
  clear hs
  go_enter Tryd.func67, Tryd.ntmps67
  go_wp2
  go_loopg [] s.size (fun g wx => ∃ i : Nat, i + g = s.size ∧ wx = w.iter s i)
  case atStart => exact ⟨0, by omega, rfl⟩
  case round =>
    obtain ⟨i, hig, rfl⟩ := hrel
    cases gk with
    | zero =>
      obtain rfl : i = s.size := by omega
      have hnx := run_next_end (P := Tryd.prog) w s s.size
      go_wp2
      go_ret
      exact ⟨rfl, (Below.refl _ _).alloc (Nat.le_refl _) _⟩
    | succ g =>
      have hi : i < s.size := by omega
      have ha := HS.out i hi
      have hnx := fun ty => run_next_ascii (P := Tryd.prog) w s i ty hi ha
      obtain ⟨x, hx⟩ : ∃ x : UInt8, s[i]'hi = x := ⟨_, rfl⟩
      rw [hx] at hnx ha
      clear hx
      have hq : ((x.toNat : Int) == 65533) = false := beq_eq_false_iff_ne.2 (by omega)
      go_wp2
      go_roundg g
      case measure => omega
      case rel => exact ⟨i + 1, by omega, rfl⟩

set_option maxRecDepth 1000000 in
/-- A rune that is none. -/
theorem indexRune_no (s : ByteArray) (r : Int) (h : 128 ≤ r) (h2 : r ≠ 65533) (hv : Lib.validRune r = false) (w : World) : Calls Tryd.prog 67 #[.string s, .int .i32 r] w fun e w' => e = .returned (.int .i64 (-1)) ∧ Below w.heap.size w w' := by
  have HV : Hid (Lib.validRune r = false) := hv
  clear hv
  go_enter Tryd.func67, Tryd.ntmps67
  go_wp2_with (go_at_call 78; refine (Tryd.utf8_ValidRune r _).mono ?_; rintro e w1 ⟨he, rfl⟩; rw [HV.out] at he; subst he)
  go_ret
  exact ⟨rfl, Below.refl _ _⟩

theorem idx_high (l : List UInt8) (hl : l.all (fun b => decide (b.toNat < 128)) = true) (z : UInt8) (hz : 128 ≤ z.toNat) : Lib.indexByte l z = -1 :=
  ib_none l z fun b hb e => by
    have := of_decide_eq_true (List.all_eq_true.1 hl b hb)
    rw [e] at this; omega

set_option maxHeartbeats 4000000 in
set_option maxRecDepth 1000000 in
theorem indexRune_two (r : Int) (h : 128 ≤ r) (h2 : r ≠ 65533) (hv : Lib.validRune r = true) (a z : UInt8) (hz : 128 ≤ z.toNat) (he : Utf8.encode r = ⟨#[a, z]⟩) (w : World) : Calls Tryd.prog 67 #[.string DM, .int .i32 r] w fun e w' => e = .returned (.int .i64 (-1)) ∧ Below w.heap.size w w' := by
  have HV : Hid (Lib.validRune r = true) := hv
  have hq : (((DM[1]'(by decide +kernel)).toNat : Int) != (((⟨#[a, z]⟩ : ByteArray)[1]'(by show 1 < 2; omega)).toNat : Int)) = true := bne_iff_ne.2 (by show ((48 : Nat) : Int) ≠ (z.toNat : Int); omega)
  have hsl : ∀ w, (Instr.slice 9 (.string DM) (some (.int .i64 2)) none none).run Tryd.prog w = .ok (.string (DM.extract 2 11)) w := by intro w; kernel_rfl
  have HM : Hid (Lib.indexByte (DM.extract 2 11).data.toList ((((⟨#[a, z]⟩ : ByteArray)[1]'(by show 1 < 2; omega)).toNat : Int)).toNat.toUInt8 = -1) := by
    show Lib.indexByte (DM.extract 2 11).data.toList ((z.toNat : Int)).toNat.toUInt8 = -1
    rw [show ((z.toNat : Int)).toNat.toUInt8 = z by simp]
    exact idx_high _ (by decide +kernel) z hz
  have hwr : IntKind.i64.wrap 2 = 2 := by decide +kernel
  clear hv
  go_enter Tryd.func67, Tryd.ntmps67
  go_wp2_with (go_at_call 78; refine (Tryd.utf8_ValidRune r _).mono ?_; rintro e w1 ⟨he, hw⟩; rw [hw]; rw [HV.out] at he; subst he; clear hw w1)
  go_step3
  go_wp2
  go_loopw [9] (fun i wr => i = .int .i64 1 ∧ wr = w) (fun _ _ => 0)
  case atStart => exact ⟨rfl, rfl⟩
  case round =>
    obtain ⟨rfl, hw⟩ := hrel
    rw [hw]
    clear hw
    go_wp2
    go_step3
    go_wp2
    go_region
    go_wp2
    have hB : Hid (Below w.heap.size w w) := Below.refl _ _
    refine wp_region_noPanic ?_
    refine wp_region_held_drew (S := fun W => Below w.heap.size w W) (by kernel_rfl) (by first | exact hB.out.drew | exact hB.out.drew.drew) (fun h0 => ?_)
    refine wpAnyH_takeAt (i := 0) (v := ?_) rfl (by kernel_rfl) (by kernel_rfl) (by kernel_rfl) (fun _ _ _ h => h) (Or.inl ⟨by rfl, ?_⟩) h0 ?_
    rotate_left 1
    · intro w' hS; clear hS
      go_simp <;> with_reducible rfl
    try simp only [Act.put, List.setIfInBounds_toArray, List.set_cons_zero, List.set_cons_succ]
    refine wpAnyH_takeAt (i := 1) (v := ?_) rfl (by kernel_rfl) (by kernel_rfl) (by kernel_rfl) (fun _ _ _ h => h) (Or.inl ⟨by rfl, ?_⟩) h0 ?_
    rotate_left 1
    · intro w' hS; clear hS
      go_simp <;> with_reducible rfl
    try simp only [Act.put, List.setIfInBounds_toArray, List.set_cons_zero, List.set_cons_succ]
    refine wpAnyH_takeAt (i := 2) (v := ?_) rfl (by kernel_rfl) (by kernel_rfl) (by kernel_rfl) (fun _ _ _ h => h) (Or.inl ⟨by rfl, ?_⟩) h0 ?_
    rotate_left 1
    · intro w' hS; clear hS
      go_simp <;> with_reducible rfl
    try simp only [Act.put, List.setIfInBounds_toArray, List.set_cons_zero, List.set_cons_succ]
    refine wpAnyH_takeAt (i := 3) (v := .string (DM.extract 2 11)) rfl (by kernel_rfl) (by kernel_rfl) (by kernel_rfl) (fun _ _ _ h => h) (Or.inl ⟨by rfl, ?_⟩) h0 ?_
    · intro w' hS; clear hS
      go_simp
    try simp only [Act.put, List.setIfInBounds_toArray, List.set_cons_zero, List.set_cons_succ]
    refine wpAnyH_takeAt (i := 4) (v := ?_) rfl (by kernel_rfl) (by kernel_rfl) (by kernel_rfl) (fun _ _ _ h => h) (Or.inl ⟨by rfl, ?_⟩) h0 ?_
    rotate_left 1
    · intro w' hS; clear hS
      go_simp <;> with_reducible rfl
    try simp only [Act.put, List.setIfInBounds_toArray, List.set_cons_zero, List.set_cons_succ]
    refine wpAnyH_takeAt (i := 5) (v := ?_) rfl (by kernel_rfl) (by kernel_rfl) (by kernel_rfl) (fun _ _ _ h => h) (Or.inl ⟨by rfl, ?_⟩) h0 ?_
    rotate_left 1
    · intro w' hS; clear hS
      go_simp <;> with_reducible rfl
    try simp only [Act.put, List.setIfInBounds_toArray, List.set_cons_zero, List.set_cons_succ]
    refine wpAnyH_takeAt (i := 6) (v := ?_) rfl (by kernel_rfl) (by kernel_rfl) (by kernel_rfl) (fun _ _ _ h => h) (Or.inl ⟨by rfl, ?_⟩) h0 ?_
    rotate_left 1
    · intro w' hS; clear hS
      go_simp <;> with_reducible rfl
    try simp only [Act.put, List.setIfInBounds_toArray, List.set_cons_zero, List.set_cons_succ]
    refine wpAnyH_ready (rs := [7]) (by kernel_rfl) (by simp) (allReady_at rfl (fun K hK => ?_))
    go_simp
    refine (Tryd.strings_IndexByte _ _ _).mono ?_
    rintro e w3 ⟨he, rfl⟩; rw [HM.out] at he; subst he
    dsimp only
    have h1 := h0
    refine hK.out _ _ h1 (fun _ => ?_)
    clear hK K
    try simp only [Act.put, List.setIfInBounds_toArray, List.set_cons_zero, List.set_cons_succ]
    refine wpAnyH_takeAt (i := 8) (v := ?_) rfl (by kernel_rfl) (by kernel_rfl) (by kernel_rfl) (fun _ _ _ h => h) (Or.inl ⟨by rfl, ?_⟩) h1 ?_
    rotate_left 1
    · intro w' hS; clear hS
      go_simp <;> with_reducible rfl
    try simp only [Act.put, List.setIfInBounds_toArray, List.set_cons_zero, List.set_cons_succ]
    refine wpAnyH_done (by kernel_rfl) ?_ _
    refine NoPanic.normal ?_
    go_wp2
    show bodyPost Tryd.prog Tryd.f67 (fun e w' => e = .returned (.int .i64 (-1)) ∧ Below w.heap.size w w') Exit.ret _ _
    go_ret
    exact ⟨rfl, hB.out.drew.drew⟩

set_option maxHeartbeats 4000000 in
set_option maxRecDepth 1000000 in
theorem indexRune_three (r : Int) (h : 128 ≤ r) (h2 : r ≠ 65533) (hv : Lib.validRune r = true) (a b z : UInt8) (hz : 128 ≤ z.toNat) (he : Utf8.encode r = ⟨#[a, b, z]⟩) (w : World) : Calls Tryd.prog 67 #[.string DM, .int .i32 r] w fun e w' => e = .returned (.int .i64 (-1)) ∧ Below w.heap.size w w' := by
  have HV : Hid (Lib.validRune r = true) := hv
  have hq : (((DM[2]'(by decide +kernel)).toNat : Int) != (((⟨#[a, b, z]⟩ : ByteArray)[2]'(by show 2 < 3; omega)).toNat : Int)) = true := bne_iff_ne.2 (by show ((49 : Nat) : Int) ≠ (z.toNat : Int); omega)
  have hsl : ∀ w, (Instr.slice 9 (.string DM) (some (.int .i64 3)) none none).run Tryd.prog w = .ok (.string (DM.extract 3 11)) w := by intro w; kernel_rfl
  have HM : Hid (Lib.indexByte (DM.extract 3 11).data.toList ((((⟨#[a, b, z]⟩ : ByteArray)[2]'(by show 2 < 3; omega)).toNat : Int)).toNat.toUInt8 = -1) := by
    show Lib.indexByte (DM.extract 3 11).data.toList ((z.toNat : Int)).toNat.toUInt8 = -1
    rw [show ((z.toNat : Int)).toNat.toUInt8 = z by simp]
    exact idx_high _ (by decide +kernel) z hz
  have hwr : IntKind.i64.wrap 3 = 3 := by decide +kernel
  clear hv
  go_enter Tryd.func67, Tryd.ntmps67
  go_wp2_with (go_at_call 78; refine (Tryd.utf8_ValidRune r _).mono ?_; rintro e w1 ⟨he, hw⟩; rw [hw]; rw [HV.out] at he; subst he; clear hw w1)
  go_step3
  go_wp2
  go_loopw [9] (fun i wr => i = .int .i64 2 ∧ wr = w) (fun _ _ => 0)
  case atStart => exact ⟨rfl, rfl⟩
  case round =>
    obtain ⟨rfl, hw⟩ := hrel
    rw [hw]
    clear hw
    go_wp2
    go_step3
    go_wp2
    go_region
    go_wp2
    have hB : Hid (Below w.heap.size w w) := Below.refl _ _
    refine wp_region_noPanic ?_
    refine wp_region_held_drew (S := fun W => Below w.heap.size w W) (by kernel_rfl) (by first | exact hB.out.drew | exact hB.out.drew.drew) (fun h0 => ?_)
    refine wpAnyH_takeAt (i := 0) (v := ?_) rfl (by kernel_rfl) (by kernel_rfl) (by kernel_rfl) (fun _ _ _ h => h) (Or.inl ⟨by rfl, ?_⟩) h0 ?_
    rotate_left 1
    · intro w' hS; clear hS
      go_simp <;> with_reducible rfl
    try simp only [Act.put, List.setIfInBounds_toArray, List.set_cons_zero, List.set_cons_succ]
    refine wpAnyH_takeAt (i := 1) (v := ?_) rfl (by kernel_rfl) (by kernel_rfl) (by kernel_rfl) (fun _ _ _ h => h) (Or.inl ⟨by rfl, ?_⟩) h0 ?_
    rotate_left 1
    · intro w' hS; clear hS
      go_simp <;> with_reducible rfl
    try simp only [Act.put, List.setIfInBounds_toArray, List.set_cons_zero, List.set_cons_succ]
    refine wpAnyH_takeAt (i := 2) (v := ?_) rfl (by kernel_rfl) (by kernel_rfl) (by kernel_rfl) (fun _ _ _ h => h) (Or.inl ⟨by rfl, ?_⟩) h0 ?_
    rotate_left 1
    · intro w' hS; clear hS
      go_simp <;> with_reducible rfl
    try simp only [Act.put, List.setIfInBounds_toArray, List.set_cons_zero, List.set_cons_succ]
    refine wpAnyH_takeAt (i := 3) (v := .string (DM.extract 3 11)) rfl (by kernel_rfl) (by kernel_rfl) (by kernel_rfl) (fun _ _ _ h => h) (Or.inl ⟨by rfl, ?_⟩) h0 ?_
    · intro w' hS; clear hS
      go_simp
    try simp only [Act.put, List.setIfInBounds_toArray, List.set_cons_zero, List.set_cons_succ]
    refine wpAnyH_takeAt (i := 4) (v := ?_) rfl (by kernel_rfl) (by kernel_rfl) (by kernel_rfl) (fun _ _ _ h => h) (Or.inl ⟨by rfl, ?_⟩) h0 ?_
    rotate_left 1
    · intro w' hS; clear hS
      go_simp <;> with_reducible rfl
    try simp only [Act.put, List.setIfInBounds_toArray, List.set_cons_zero, List.set_cons_succ]
    refine wpAnyH_takeAt (i := 5) (v := ?_) rfl (by kernel_rfl) (by kernel_rfl) (by kernel_rfl) (fun _ _ _ h => h) (Or.inl ⟨by rfl, ?_⟩) h0 ?_
    rotate_left 1
    · intro w' hS; clear hS
      go_simp <;> with_reducible rfl
    try simp only [Act.put, List.setIfInBounds_toArray, List.set_cons_zero, List.set_cons_succ]
    refine wpAnyH_takeAt (i := 6) (v := ?_) rfl (by kernel_rfl) (by kernel_rfl) (by kernel_rfl) (fun _ _ _ h => h) (Or.inl ⟨by rfl, ?_⟩) h0 ?_
    rotate_left 1
    · intro w' hS; clear hS
      go_simp <;> with_reducible rfl
    try simp only [Act.put, List.setIfInBounds_toArray, List.set_cons_zero, List.set_cons_succ]
    refine wpAnyH_ready (rs := [7]) (by kernel_rfl) (by simp) (allReady_at rfl (fun K hK => ?_))
    go_simp
    refine (Tryd.strings_IndexByte _ _ _).mono ?_
    rintro e w3 ⟨he, rfl⟩; rw [HM.out] at he; subst he
    dsimp only
    have h1 := h0
    refine hK.out _ _ h1 (fun _ => ?_)
    clear hK K
    try simp only [Act.put, List.setIfInBounds_toArray, List.set_cons_zero, List.set_cons_succ]
    refine wpAnyH_takeAt (i := 8) (v := ?_) rfl (by kernel_rfl) (by kernel_rfl) (by kernel_rfl) (fun _ _ _ h => h) (Or.inl ⟨by rfl, ?_⟩) h1 ?_
    rotate_left 1
    · intro w' hS; clear hS
      go_simp <;> with_reducible rfl
    try simp only [Act.put, List.setIfInBounds_toArray, List.set_cons_zero, List.set_cons_succ]
    refine wpAnyH_done (by kernel_rfl) ?_ _
    refine NoPanic.normal ?_
    go_wp2
    show bodyPost Tryd.prog Tryd.f67 (fun e w' => e = .returned (.int .i64 (-1)) ∧ Below w.heap.size w w') Exit.ret _ _
    go_ret
    exact ⟨rfl, hB.out.drew.drew⟩

set_option maxHeartbeats 4000000 in
set_option maxRecDepth 1000000 in
theorem indexRune_four (r : Int) (h : 128 ≤ r) (h2 : r ≠ 65533) (hv : Lib.validRune r = true) (a b c z : UInt8) (hz : 128 ≤ z.toNat) (he : Utf8.encode r = ⟨#[a, b, c, z]⟩) (w : World) : Calls Tryd.prog 67 #[.string DM, .int .i32 r] w fun e w' => e = .returned (.int .i64 (-1)) ∧ Below w.heap.size w w' := by
  have HV : Hid (Lib.validRune r = true) := hv
  have hq : (((DM[3]'(by decide +kernel)).toNat : Int) != (((⟨#[a, b, c, z]⟩ : ByteArray)[3]'(by show 3 < 4; omega)).toNat : Int)) = true := bne_iff_ne.2 (by show ((50 : Nat) : Int) ≠ (z.toNat : Int); omega)
  have hsl : ∀ w, (Instr.slice 9 (.string DM) (some (.int .i64 4)) none none).run Tryd.prog w = .ok (.string (DM.extract 4 11)) w := by intro w; kernel_rfl
  have HM : Hid (Lib.indexByte (DM.extract 4 11).data.toList ((((⟨#[a, b, c, z]⟩ : ByteArray)[3]'(by show 3 < 4; omega)).toNat : Int)).toNat.toUInt8 = -1) := by
    show Lib.indexByte (DM.extract 4 11).data.toList ((z.toNat : Int)).toNat.toUInt8 = -1
    rw [show ((z.toNat : Int)).toNat.toUInt8 = z by simp]
    exact idx_high _ (by decide +kernel) z hz
  have hwr : IntKind.i64.wrap 4 = 4 := by decide +kernel
  clear hv
  go_enter Tryd.func67, Tryd.ntmps67
  go_wp2_with (go_at_call 78; refine (Tryd.utf8_ValidRune r _).mono ?_; rintro e w1 ⟨he, hw⟩; rw [hw]; rw [HV.out] at he; subst he; clear hw w1)
  go_step3
  go_wp2
  go_loopw [9] (fun i wr => i = .int .i64 3 ∧ wr = w) (fun _ _ => 0)
  case atStart => exact ⟨rfl, rfl⟩
  case round =>
    obtain ⟨rfl, hw⟩ := hrel
    rw [hw]
    clear hw
    go_wp2
    go_step3
    go_wp2
    go_region
    go_wp2
    have hB : Hid (Below w.heap.size w w) := Below.refl _ _
    refine wp_region_noPanic ?_
    refine wp_region_held_drew (S := fun W => Below w.heap.size w W) (by kernel_rfl) (by first | exact hB.out.drew | exact hB.out.drew.drew) (fun h0 => ?_)
    refine wpAnyH_takeAt (i := 0) (v := ?_) rfl (by kernel_rfl) (by kernel_rfl) (by kernel_rfl) (fun _ _ _ h => h) (Or.inl ⟨by rfl, ?_⟩) h0 ?_
    rotate_left 1
    · intro w' hS; clear hS
      go_simp <;> with_reducible rfl
    try simp only [Act.put, List.setIfInBounds_toArray, List.set_cons_zero, List.set_cons_succ]
    refine wpAnyH_takeAt (i := 1) (v := ?_) rfl (by kernel_rfl) (by kernel_rfl) (by kernel_rfl) (fun _ _ _ h => h) (Or.inl ⟨by rfl, ?_⟩) h0 ?_
    rotate_left 1
    · intro w' hS; clear hS
      go_simp <;> with_reducible rfl
    try simp only [Act.put, List.setIfInBounds_toArray, List.set_cons_zero, List.set_cons_succ]
    refine wpAnyH_takeAt (i := 2) (v := ?_) rfl (by kernel_rfl) (by kernel_rfl) (by kernel_rfl) (fun _ _ _ h => h) (Or.inl ⟨by rfl, ?_⟩) h0 ?_
    rotate_left 1
    · intro w' hS; clear hS
      go_simp <;> with_reducible rfl
    try simp only [Act.put, List.setIfInBounds_toArray, List.set_cons_zero, List.set_cons_succ]
    refine wpAnyH_takeAt (i := 3) (v := .string (DM.extract 4 11)) rfl (by kernel_rfl) (by kernel_rfl) (by kernel_rfl) (fun _ _ _ h => h) (Or.inl ⟨by rfl, ?_⟩) h0 ?_
    · intro w' hS; clear hS
      go_simp
    try simp only [Act.put, List.setIfInBounds_toArray, List.set_cons_zero, List.set_cons_succ]
    refine wpAnyH_takeAt (i := 4) (v := ?_) rfl (by kernel_rfl) (by kernel_rfl) (by kernel_rfl) (fun _ _ _ h => h) (Or.inl ⟨by rfl, ?_⟩) h0 ?_
    rotate_left 1
    · intro w' hS; clear hS
      go_simp <;> with_reducible rfl
    try simp only [Act.put, List.setIfInBounds_toArray, List.set_cons_zero, List.set_cons_succ]
    refine wpAnyH_takeAt (i := 5) (v := ?_) rfl (by kernel_rfl) (by kernel_rfl) (by kernel_rfl) (fun _ _ _ h => h) (Or.inl ⟨by rfl, ?_⟩) h0 ?_
    rotate_left 1
    · intro w' hS; clear hS
      go_simp <;> with_reducible rfl
    try simp only [Act.put, List.setIfInBounds_toArray, List.set_cons_zero, List.set_cons_succ]
    refine wpAnyH_takeAt (i := 6) (v := ?_) rfl (by kernel_rfl) (by kernel_rfl) (by kernel_rfl) (fun _ _ _ h => h) (Or.inl ⟨by rfl, ?_⟩) h0 ?_
    rotate_left 1
    · intro w' hS; clear hS
      go_simp <;> with_reducible rfl
    try simp only [Act.put, List.setIfInBounds_toArray, List.set_cons_zero, List.set_cons_succ]
    refine wpAnyH_ready (rs := [7]) (by kernel_rfl) (by simp) (allReady_at rfl (fun K hK => ?_))
    go_simp
    refine (Tryd.strings_IndexByte _ _ _).mono ?_
    rintro e w3 ⟨he, rfl⟩; rw [HM.out] at he; subst he
    dsimp only
    have h1 := h0
    refine hK.out _ _ h1 (fun _ => ?_)
    clear hK K
    try simp only [Act.put, List.setIfInBounds_toArray, List.set_cons_zero, List.set_cons_succ]
    refine wpAnyH_takeAt (i := 8) (v := ?_) rfl (by kernel_rfl) (by kernel_rfl) (by kernel_rfl) (fun _ _ _ h => h) (Or.inl ⟨by rfl, ?_⟩) h1 ?_
    rotate_left 1
    · intro w' hS; clear hS
      go_simp <;> with_reducible rfl
    try simp only [Act.put, List.setIfInBounds_toArray, List.set_cons_zero, List.set_cons_succ]
    refine wpAnyH_done (by kernel_rfl) ?_ _
    refine NoPanic.normal ?_
    go_wp2
    show bodyPost Tryd.prog Tryd.f67 (fun e w' => e = .returned (.int .i64 (-1)) ∧ Below w.heap.size w w') Exit.ret _ _
    go_ret
    exact ⟨rfl, hB.out.drew.drew⟩

theorem encode_high (r : Int) (h : 128 ≤ r) : (∃ a z : UInt8, 128 ≤ z.toNat ∧ Utf8.encode r = ⟨#[a, z]⟩) ∨ (∃ a b z : UInt8, 128 ≤ z.toNat ∧ Utf8.encode r = ⟨#[a, b, z]⟩) ∨ (∃ a b c z : UInt8, 128 ≤ z.toNat ∧ Utf8.encode r = ⟨#[a, b, c, z]⟩) := by
  have hz : ∀ c : Nat, 128 ≤ (UInt8.ofNat (0x80 + c % 64)).toNat := fun c => by simp; omega
  have hc : 128 ≤ (if Utf8.valid r = true then r.toNat else Utf8.runeError) := by
    split
    · omega
    · decide
  unfold Utf8.encode
  simp only []
  generalize (if Utf8.valid r = true then r.toNat else Utf8.runeError) = c at hc ⊢
  rw [if_neg (by omega)]
  split
  · exact Or.inl ⟨_, _, hz _, rfl⟩
  · split
    · exact Or.inr (Or.inl ⟨_, _, _, hz _, rfl⟩)
    · exact Or.inr (Or.inr ⟨_, _, _, _, hz _, rfl⟩)
theorem indexRune_high (r : Int) (h : 128 ≤ r) (w : World) : Calls Tryd.prog 67 #[.string DM, .int .i32 r] w fun e w' => e = .returned (.int .i64 (-1)) ∧ Below w.heap.size w w' := by
  by_cases h2 : r = 65533
  · subst h2; exact indexRune_err DM (fun i hi => (dm_ascii i hi).1) w
  · cases hv : Lib.validRune r
    · exact indexRune_no DM r h h2 hv w
    · rcases encode_high r h with ⟨a, z, hz, he⟩ | ⟨a, b, z, hz, he⟩ | ⟨a, b, c, z, hz, he⟩
      · exact indexRune_two r h h2 hv a z hz he w
      · exact indexRune_three r h h2 hv a b z hz he w
      · exact indexRune_four r h h2 hv a b c z hz he w

/-- A rune of more than one byte has no ASCII in it. -/
theorem decode_wide (s : ByteArray) (i : Nat) (h : i < s.size) (ha : 128 ≤ (s[i]'h).toNat) : i + (Utf8.decode s i).2 ≤ s.size ∧ 1 ≤ (Utf8.decode s i).2 ∧ ∀ k, k < (Utf8.decode s i).2 → 128 ≤ (s.get! (i + k)).toNat := by
  have h0 : 128 ≤ (s.get! (i + 0)).toNat := by rw [get_at s i h]; exact ha
  have hn : ¬ (s.get! (i + 0)).toNat < 128 := by omega
  simp only [Utf8.decode]
  rw [if_neg hn]
  have one : i + 1 ≤ s.size ∧ 1 ≤ 1 ∧ ∀ k, k < 1 → 128 ≤ (s.get! (i + k)).toNat := ⟨by omega, by omega, fun k hk => by
    obtain rfl : k = 0 := by omega
    exact h0⟩
  split
  · rename_i h1
    simp only [Bool.and_eq_true, beq_iff_eq, decide_eq_true_eq] at h1
    split
    · refine ⟨by omega, by omega, fun k hk => ?_⟩
      match k, hk with
      | 0, _ => exact h0
      | 1, _ => omega
    · exact one
  · split
    · rename_i h1
      simp only [Bool.and_eq_true, beq_iff_eq, decide_eq_true_eq] at h1
      split
      · refine ⟨by omega, by omega, fun k hk => ?_⟩
        match k, hk with
        | 0, _ => exact h0
        | 1, _ => omega
        | 2, _ => omega
      · exact one
    · split
      · rename_i h1
        simp only [Bool.and_eq_true, beq_iff_eq, decide_eq_true_eq] at h1
        split
        · refine ⟨by omega, by omega, fun k hk => ?_⟩
          match k, hk with
          | 0, _ => exact h0
          | 1, _ => omega
          | 2, _ => omega
          | 3, _ => omega
        · exact one
      · exact one
end Go.Proofs.YtdjladaefoedfaaDoor
namespace Go.Proofs.YtdjladaefoedfaaDoor
open Go.RowKit Ip As Go.Lib

theorem getl (s : ByteArray) (i : Nat) (h : i < s.size) : s.data.toList[i]? = some (s[i]'h) := Lib.data_getElem? s i h
theorem get_bang (s : ByteArray) (i : Nat) (h : i < s.size) : s.get! i = s[i]'h := by
  have := get_at s i h; simpa using this
theorem NoAny.wide {s : ByteArray} {i n : Nat} (hno : Lib.NoAny s.data.toList dm i) (hle : i + n ≤ s.size) (hw : ∀ k, k < n → 128 ≤ (s.get! (i + k)).toNat) : Lib.NoAny s.data.toList dm (i + n) := by
  induction n with
  | zero => exact hno
  | succ n ih =>
    have h1 := ih (by omega) (fun k hk => hw k (by omega))
    have hb := hw n (by omega)
    have hlt : i + n < s.size := by omega
    rw [get_bang s _ hlt] at hb
    refine NoAny.succ h1 (getl s _ hlt) ?_
    rw [dm_eq]; unfold isDig; simp; omega

/-- While IndexAny goes over a text. -/
def Iter (w : World) (s : ByteArray) (i : Nat) (W : World) : Prop := W.heap[w.heap.size]? = some (.stringIter s i) ∧ Below w.heap.size w W
theorem Iter.below {w W W' : World} {s : ByteArray} {i : Nat} (h : Iter w s i W) (hb : Below W.heap.size W W') : Iter w s i W' := by
  have hlt : w.heap.size < W.heap.size := (Array.getElem?_eq_some_iff.1 h.1).1
  exact ⟨by rw [hb.block _ hlt]; exact h.1, h.2.trans (hb.mono (by omega))⟩
theorem Iter.at {w W : World} {s : ByteArray} {i : Nat} (h : Iter w s i W) (j : Nat) : Iter w s j (W.iterAt w.heap.size s j) :=
  ⟨iterAt_heap W _ s i j h.1, below_iterAt h.2 (Nat.le_refl _) s j⟩

set_option maxHeartbeats 8000000 in
set_option maxRecDepth 1000000 in
theorem indexAny_short (s : ByteArray) (h8 : s.size ≤ 8) (w : World) :
    Calls Tryd.prog 58 #[.string s, .string DM] w fun e w' => e = .returned (.int .i64 (Lib.indexAny s.data.toList dm)) ∧ Below w.heap.size w w' := by
  have h8z : decide ((8 : Int) < (s.size : Int)) = false := decide_eq_false (by omega)
  go_enter Tryd.func58, Tryd.ntmps58
  go_wp2_with (go_at_call 68; refine (Tryd.strings_shouldUseASCIISet _ _).mono ?_; rintro e w' ⟨rfl, hw⟩; rw [hw, h8z]; clear hw w')
  go_loopg [] s.size (fun g wx => ∃ i : Nat, i ≤ s.size ∧ s.size - i ≤ g ∧ Iter w s i wx ∧ Lib.NoAny s.data.toList dm i)
  case atStart => exact ⟨0, by omega, by omega, ⟨World.iter_heap _ _ _, (Below.refl _ _).alloc (Nat.le_refl _) _⟩, NoAny.zero _ _⟩
  case round =>
    obtain ⟨i, his, hig, hI, hno⟩ := hrel
    have HN : Hid (Lib.NoAny s.data.toList dm i) := hno
    have HI : Hid (Iter w s i wr) := hI
    clear hno
    by_cases hi : i < s.size
    · have hI1 := hI.1
      clear hI
      by_cases hx128 : (s[i]'hi).toNat < 128
      · have hnx := fun ty => run_next_ascii_at (P := Tryd.prog) wr w.heap.size s i ty hI1 hi hx128
        obtain ⟨x, hx⟩ : ∃ x : UInt8, s[i]'hi = x := ⟨_, rfl⟩
        rw [hx] at hnx hx128
        have Hx : Hid (s.data.toList[i]? = some x) := by show _ = _; rw [← hx]; exact getl s i hi
        clear hx hI1
        have hcon := Lib.contains_iff_indexByte dm x
        have hback : ((x.toNat : Int)).toNat.toUInt8 = x := by simp
        cases hin : dm.contains x
        · rw [hin] at hcon
          have hlt : ¬ ((0 : Int) ≤ Lib.indexByte dm x) := of_decide_eq_false hcon.symm
          have Hin : Hid (dm.contains x = false) := hin
          clear hcon hin
          go_wp2_with (go_at_call 67; refine (Tryd.strings_IndexRune_ascii DM _ _ (by omega) (by omega)).mono ?_; rintro e w' ⟨rfl, hw⟩; rw [hw, hback]; clear hw w'; rw [show DM.data.toList = dm from rfl])
          go_roundg (s.size - (i + 1))
          case measure => omega
          case rel => exact ⟨i + 1, by omega, by omega, HI.out.at (i + 1), HN.out.succ Hx.out Hin.out⟩
        · rw [hin] at hcon
          have hge : (0 : Int) ≤ Lib.indexByte dm x := of_decide_eq_true hcon.symm
          have Hin : Hid (dm.contains x = true) := hin
          clear hcon hin
          go_wp2_with (go_at_call 67; refine (Tryd.strings_IndexRune_ascii DM _ _ (by omega) (by omega)).mono ?_; rintro e w' ⟨rfl, hw⟩; rw [hw, hback]; clear hw w'; rw [show DM.data.toList = dm from rfl])
          go_ret
          exact ⟨ret_int (Lib.indexAny_hit HN.out Hx.out Hin.out).symm, (HI.out.at (i + 1)).2⟩
      · have hnx := fun ty => run_next_any_at (P := Tryd.prog) wr w.heap.size s i ty hI1 hi
        obtain ⟨hd1, _⟩ := decode_high s i hi (by omega)
        obtain ⟨hw1, hw2, hw3⟩ := decode_wide s i hi (by omega)
        generalize hD : Utf8.decode s i = D at hnx hd1 hw1 hw2 hw3
        have Hw : Hid (∀ k, k < D.2 → 128 ≤ (s.get! (i + k)).toNat) := hw3
        clear hw3 hD hI1 hx128
        have HI2 : Hid (Iter w s (i + D.2) (wr.iterAt w.heap.size s (i + D.2))) := HI.out.at _
        go_wp2_with (go_at_call 67; refine (indexRune_high _ (by omega) _).mono ?_; rintro e w1 ⟨rfl, hb⟩; have HI3 : Hid (Iter w s (i + D.2) w1) := HI2.out.below hb; clear hb)
        go_roundg (s.size - (i + D.2))
        case measure => omega
        case rel => exact ⟨i + D.2, by omega, by omega, HI3.out, NoAny.wide HN.out hw1 Hw.out⟩
    · have hnx := fun ty => run_next_end_at (P := Tryd.prog) wr w.heap.size s i ty hI.1 hi
      have hB := hI.2
      clear hI
      go_wp2
      go_ret
      exact ⟨ret_int (by
        obtain rfl : i = s.size := by omega
        rw [Lib.indexAny_none (by rw [← Lib.size_eq]; exact HN.out)]), hB⟩
theorem zero116 (w : World) : (zeroValue 95).run Tryd.prog w = .ok (.agg (Array.replicate 256 (.bool false))) w := by kernel_rfl
theorem indexAny_any (s : ByteArray) (hs : s.size < 4294967281) (w : World) :
    Calls Tryd.prog 58 #[.string s, .string DM] w fun e w' => e = .returned (.int .i64 (Lib.indexAny s.data.toList dm)) ∧ Below w.heap.size w w' := by
  by_cases h8 : s.size ≤ 8
  · exact indexAny_short s h8 w
  · refine (Tryd.strings_IndexAny_long zero116 s DM w (by decide +kernel) (by omega) hs (by decide +kernel) ?_).mono fun e w' ⟨he, hw⟩ => ⟨he, ?_⟩
    · intro j b hb
      have all : ∀ b ∈ DM.data.toList, b.toNat < 128 := by decide +kernel
      exact all b (List.mem_of_getElem? hb)
    · rw [hw]; exact ((Below.refl _ _).alloc (Nat.le_refl _) _).alloc (by simp) _
end Go.Proofs.YtdjladaefoedfaaDoor
namespace Go.Proofs.YtdjladaefoedfaaDoor
open Go.RowKit Ip As Go.Lib

theorem wr64 {n : Int} (h0 : -9223372036854775808 ≤ n) (h1 : n ≤ 9223372036854775807) : IntKind.i64.wrap n = n := by
  rw [IntKind.wrap_i64]; omega
theorem ext_take (s : ByteArray) (i : Nat) : s.extract 0 i = ⟨(s.data.toList.take i).toArray⟩ := by
  apply ByteArray.ext
  rw [ByteArray.data_extract]
  apply Array.ext'
  rw [Array.toList_extract, List.extract_eq_take_drop]
  simp
theorem ext_drop (s : ByteArray) (i : Nat) : s.extract i s.size = ⟨(s.data.toList.drop i).toArray⟩ := by
  apply ByteArray.ext
  rw [ByteArray.data_extract]
  apply Array.ext'
  rw [Array.toList_extract, List.extract_eq_take_drop]
  simp only []
  rw [List.take_of_length_le (by rw [List.length_drop]; exact Nat.le_of_eq (by rw [← Lib.size_eq]))]
theorem ib_lt (l : List UInt8) (c : UInt8) : Lib.indexByte l c < l.length ∧ -1 ≤ Lib.indexByte l c := by
  refine ⟨?_, Lib.indexByte_ge l c⟩
  induction l with
  | nil => simp [Lib.indexByte]
  | cons b s ih =>
    unfold Lib.indexByte; split
    · simp
    · split
      · simp; omega
      · simp; omega
theorem cut_lite (s : ByteArray) (c : UInt8) (hs : s.size ≤ 4294967281) (w : World) :
    Calls Tryd.prog 50 #[.string s, .string ⟨#[c]⟩] w fun e w' => e = .returned (.tuple #[.string ⟨(upTo c s.data.toList).toArray⟩, .string ⟨(behind c s.data.toList).toArray⟩, .bool (decide (0 ≤ Lib.indexByte s.data.toList c))]) ∧ Below w.heap.size w w' := by
  obtain ⟨hlt, hge⟩ := ib_lt s.data.toList c
  rw [← Lib.size_eq] at hlt
  by_cases hn : 0 ≤ Lib.indexByte s.data.toList c
  · obtain ⟨i, hi⟩ := Int.eq_ofNat_of_zero_le hn
    have e1 : (⟨(upTo c s.data.toList).toArray⟩ : ByteArray) = s.extract 0 i := by unfold upTo; rw [if_pos hn, hi, ext_take]; rfl
    have e2 : (⟨(behind c s.data.toList).toArray⟩ : ByteArray) = s.extract (i + 1) s.size := by unfold behind; rw [if_pos hn, hi, ext_drop]; rfl
    rw [e1, e2, decide_eq_true hn]
    rw [hi] at hlt
    have c1 : (0 : Int) ≤ ↑i := by omega
    have c2 : (↑i : Int) ≤ ↑s.size := by omega
    have c3 : (0 : Int) ≤ ↑i + 1 := by omega
    have c4 : (↑i + 1 : Int) ≤ ↑s.size := by omega
    have c5 : IntKind.i64.wrap (↑i + 1) = ↑i + 1 := wr64 (by omega) (by omega)
    have HI : Hid (Lib.indexByte s.data.toList c = i) := hi
    clear hi e1 e2 hn hge
    go_enter Tryd.func50, Tryd.ntmps50
    go_wp2_with (go_at_call 57; refine (Tryd.stringslite_Index_one s c _).mono ?_; rintro e w' ⟨he, hw⟩; rw [HI.out] at he; subst he; rw [hw]; clear hw w')
    go_region
    go_wp2
    go_ret3
    exact ⟨rfl, (Below.refl _ _).drew⟩
  · have hm : Lib.indexByte s.data.toList c = -1 := by omega
    have e1 : (⟨(upTo c s.data.toList).toArray⟩ : ByteArray) = s := by unfold upTo; rw [if_neg hn]
    have e2 : (⟨(behind c s.data.toList).toArray⟩ : ByteArray) = ⟨#[]⟩ := by unfold behind; rw [if_neg hn]
    rw [e1, e2, decide_eq_false hn]
    have HI : Hid (Lib.indexByte s.data.toList c = -1) := hm
    clear hm hlt hge hn e1 e2
    go_enter Tryd.func50, Tryd.ntmps50
    go_wp2_with (go_at_call 57; refine (Tryd.stringslite_Index_one s c _).mono ?_; rintro e w' ⟨he, hw⟩; rw [HI.out] at he; subst he; rw [hw]; clear hw w')
    go_ret3
    exact ⟨rfl, Below.refl _ _⟩
theorem cut_one (s : ByteArray) (c : UInt8) (hs : s.size ≤ 4294967281) (w : World) :
    Calls Tryd.prog 29 #[.string s, .string ⟨#[c]⟩] w fun e w' => e = .returned (.tuple #[.string ⟨(upTo c s.data.toList).toArray⟩, .string ⟨(behind c s.data.toList).toArray⟩, .bool (decide (0 ≤ Lib.indexByte s.data.toList c))]) ∧ Below w.heap.size w w' := by
  go_enter Tryd.func29, Tryd.ntmps29
  go_wp2_with (go_at_call 50; refine (cut_lite s c hs _).mono ?_; rintro e w1 ⟨rfl, hb⟩)
  go_ret3
  exact ⟨rfl, hb⟩
theorem atoi_ok (s : ByteArray) (hs : s.size ≤ 4294967281) (v : Int) (h : Lib.atoiAll s.data.toList = .ok v) (w : World) :
    Calls Tryd.prog 59 #[.string s] w fun e w' => e = .returned (.tuple #[.int .i64 v, .nilIface]) ∧ Below w.heap.size w w' := by
  refine (Tryd.strconv_Atoi_ok s (by omega) v h w).mono fun e w' ⟨he, hw⟩ => ⟨he, ?_⟩
  rcases hw with rfl | ⟨t, rfl⟩
  · exact Below.refl _ _
  · exact Lib.bytesWorld_below _ _ _
theorem atoi_no (s : ByteArray) (hs : s.size ≤ 4294967281) (h : ∀ v, Lib.atoiAll s.data.toList ≠ .ok v) (w : World) (hG : Gl w) :
    Calls Tryd.prog 59 #[.string s] w fun e w' => (∃ n t p, e = .returned (.tuple #[.int .i64 n, .iface t p])) ∧ Below w.heap.size w w' := by
  cases ha : Lib.atoiAll s.data.toList with
  | ok v => exact absurd ha (h v)
  | «syntax» =>
    obtain ⟨ev, hv, hev⟩ := hG.es
    exact (Tryd.strconv_Atoi_syntax s (by omega) ha ev w hv hev).mono fun e w' ⟨N, he, _, _, hb⟩ => ⟨⟨_, _, _, he⟩, hb⟩
  | range =>
    obtain ⟨ev, hv, hev⟩ := hG.er
    exact (Tryd.strconv_Atoi_range s (by omega) ha ev w hv hev).mono fun e w' ⟨N, he, _, _, hb⟩ => ⟨⟨_, _, _, he⟩, hb⟩
end Go.Proofs.YtdjladaefoedfaaDoor
namespace Go.Proofs.YtdjladaefoedfaaDoor
open Go.RowKit Ip As Go.Lib

/-- What a place of an instruction holds, once the numbers vs have gone into the places fs. -/
def boxV (fs : List Nat) (vs : List Int) (o : Nat) : Int := ((fs.zip vs).lookup o).getD 0
def boxA (op : Int) (fs : List Nat) (vs : List Int) : Array Value := #[.int .i64 op, .int .i64 (boxV fs vs 1), .int .i64 (boxV fs vs 2), .int .i64 (boxV fs vs 3), .int .i64 (boxV fs vs 4)]
theorem boxV_snoc (fs : List Nat) (vs : List Int) (f : Nat) (v : Int) (hn : fs.Nodup) (hf : fs[vs.length]? = some f) (o : Nat) : boxV fs (vs ++ [v]) o = if o = f then v else boxV fs vs o := by
  unfold boxV
  induction fs generalizing vs with
  | nil => simp at hf
  | cons a fs ih =>
    rw [List.nodup_cons] at hn
    cases vs with
    | nil =>
      simp only [List.length_nil, List.getElem?_cons_zero, Option.some.injEq] at hf
      subst hf
      simp only [List.nil_append, List.zip_cons_cons, List.lookup_cons, List.zip_nil_right, List.lookup_nil]
      by_cases ho : o = a
      · subst ho; simp
      · rw [if_neg ho, show (o == a) = false from beq_eq_false_iff_ne.2 ho]
    | cons b vs =>
      simp only [List.length_cons, List.getElem?_cons_succ] at hf
      have ih := ih vs hn.2 hf
      simp only [List.cons_append, List.zip_cons_cons, List.lookup_cons]
      by_cases ho : o = a
      · subst ho
        have : o ≠ f := fun e => hn.1 (by rw [e]; exact List.mem_of_getElem? hf)
        simp [this]
      · rw [show (o == a) = false from beq_eq_false_iff_ne.2 ho]; exact ih
structure Nums (w : World) (g pb : Nat) (fs : List Nat) (op : Int) (vs : List Int) (W : World) : Prop where
  box : W.heap[g]? = some (.cells (boxA op fs vs) 23 (0, 0))
  ptr : ∀ j f, fs[j]? = some f → W.cell? ⟨pb, j, none⟩ = some (.pointer (some ⟨g, f, none⟩))
  low : Below g w W
  pbl : pb < W.heap.size
  ne : pb ≠ g
  gl : Gl W
  big : 7 ≤ g
theorem Nums.lt {w W : World} {g pb : Nat} {fs : List Nat} {op : Int} {vs : List Int} (h : Nums w g pb fs op vs W) : g < W.heap.size := (Array.getElem?_eq_some_iff.1 h.box).1
theorem Nums.below {w W W' : World} {g pb : Nat} {fs : List Nat} {op : Int} {vs : List Int} (h : Nums w g pb fs op vs W) (hb : Below W.heap.size W W') : Nums w g pb fs op vs W' :=
  ⟨by rw [hb.block _ h.lt]; exact h.box, fun j f hf => by rw [(bcell hb).1 _ _ h.pbl]; exact h.ptr j f hf, h.low.trans (hb.mono (Nat.le_of_lt h.lt)), Nat.lt_of_lt_of_le h.pbl hb.size, h.ne, h.gl.grow hb, h.big⟩
theorem Nums.drew {w W : World} {g pb : Nat} {fs : List Nat} {op : Int} {vs : List Int} (h : Nums w g pb fs op vs W) : Nums w g pb fs op vs W.drew := h.below ⟨rfl, rfl, rfl, Nat.le_refl _, fun _ _ => rfl⟩
theorem setCell_cell_other (w : World) (g i b j : Nat) (v : Value) (h : b ≠ g) : (w.setCell ⟨g, i, none⟩ v).cell? ⟨b, j, none⟩ = w.cell? ⟨b, j, none⟩ := World.cell?_setCell_other _ _ _ _ (fun e => h (congrArg Addr.block e).symm)
theorem Nums.store {w W : World} {g pb : Nat} {fs : List Nat} {op : Int} {vs : List Int} (h : Nums w g pb fs op vs W) (f : Nat) (v : Int) (hn : fs.Nodup) (hf : fs[vs.length]? = some f) (h1 : 1 ≤ f) (h4 : f ≤ 4) : Nums w g pb fs op (vs ++ [v]) (W.setCell ⟨g, f, none⟩ (.int .i64 v)) := by
  refine ⟨?_, fun j f' hf' => by rw [setCell_cell_other _ _ _ _ _ _ h.ne]; exact h.ptr j f' hf', h.low.trans ⟨rfl, rfl, rfl, by rw [World.size_setCell]; exact Nat.le_refl _, fun k hk => heap_setCell_other _ _ _ _ (by simp; omega)⟩, by rw [World.size_setCell]; exact h.pbl, h.ne,
    h.gl.below (B := 7) (Nat.le_refl _) ⟨rfl, rfl, rfl, by rw [World.size_setCell]; exact Nat.le_refl _, fun k hk => heap_setCell_other _ _ _ _ (by have := h.big; simp; omega)⟩, h.big⟩
  rw [heap_setCell_same _ _ _ _ _ _ h.box]
  congr 2
  unfold boxA
  simp only [boxV_snoc fs vs f v hn hf]
  have hc : f = 1 ∨ f = 2 ∨ f = 3 ∨ f = 4 := by omega
  rcases hc with e | e | e | e <;> subst e <;> simp
theorem Nums.cell {w W : World} {g pb : Nat} {fs : List Nat} {op : Int} {vs : List Int} (h : Nums w g pb fs op vs W) (f : Nat) (h4 : f ≤ 4) : ∃ u, W.cell? ⟨g, f, none⟩ = some u := by
  simp only [World.cell?, h.box]
  have hc : f = 0 ∨ f = 1 ∨ f = 2 ∨ f = 3 ∨ f = 4 := by omega
  rcases hc with e | e | e | e | e <;> subst e <;> exact ⟨_, rfl⟩

/-! ### What is read of a text -/
theorem ia_lt (l : List UInt8) : Lib.indexAny l dm < l.length ∧ -1 ≤ Lib.indexAny l dm := by
  refine ⟨?_, Lib.indexAny_ge dm l⟩
  induction l with
  | nil => simp [Lib.indexAny]
  | cons b s ih =>
    unfold Lib.indexAny; split
    · simp
    · split
      · simp; omega
      · simp; omega
theorem numsV_end (k : Nat) (t : List UInt8) (h : num1 t = none) : numsV k t = [] := by
  cases k with
  | zero => rfl
  | succ k => simp only [numsV, h]
theorem numsV_on (k : Nat) (t : List UInt8) (v : Int) (r : List UInt8) (h : num1 t = some (v, r)) : numsV (k + 1) t = v :: numsV k r := by
  simp only [numsV, h]
theorem tw_at : ∀ (l : List UInt8) (m : Nat), m < (l.takeWhile isDig).length → ∃ b, l[m]? = some b ∧ isDig b = true
  | [], m, h => by simp at h
  | a :: l, m, h => by
    rw [List.takeWhile_cons] at h
    cases ha : isDig a
    · rw [ha] at h; simp at h
    · rw [ha] at h
      cases m with
      | zero => exact ⟨a, rfl, ha⟩
      | succ m => simp at h; simpa using tw_at l m h
theorem tw_end : ∀ (l : List UInt8), (∀ b, l[(l.takeWhile isDig).length]? = some b → isDig b = false)
  | [], b, h => by simp at h
  | a :: l, b, h => by
    rw [List.takeWhile_cons] at h
    cases ha : isDig a
    · rw [ha] at h; simp at h; rw [← h]; exact ha
    · rw [ha] at h; simp at h; exact tw_end l b h
theorem tw_le (l : List UInt8) : (l.takeWhile isDig).length ≤ l.length := (List.takeWhile_sublist _).length_le
/-- The digits behind the first byte. -/
def digs (p : List UInt8) : Nat := ((p.drop 1).takeWhile isDig).length
theorem digs_at (p : List UInt8) (m : Nat) (h : m < digs p) : ∃ b, p[m + 1]? = some b ∧ isDig b = true := by
  obtain ⟨b, hb, hd⟩ := tw_at (p.drop 1) m h
  exact ⟨b, by rw [List.getElem?_drop] at hb; rw [Nat.add_comm]; exact hb, hd⟩
theorem digs_end (p : List UInt8) (b : UInt8) (h : p[digs p + 1]? = some b) : isDig b = false := by
  refine tw_end (p.drop 1) b ?_
  rw [List.getElem?_drop, Nat.add_comm]; exact h
theorem digs_le (p : List UInt8) (h : p ≠ []) : digs p + 1 ≤ p.length := by
  have := tw_le (p.drop 1); unfold digs
  cases p with
  | nil => exact absurd rfl h
  | cons a p => simp at this ⊢; omega

theorem slice_from (t : List UInt8) (i : Nat) (h : i ≤ t.length) (w : World) : (Instr.slice 9 (.string ⟨t.toArray⟩) (some (.int .i64 (i : Int))) none none).run Tryd.prog w = .ok (.string ⟨(t.drop i).toArray⟩) w := by
  have c1 : (0 : Int) ≤ (i : Int) := by omega
  have c2 : (i : Int) ≤ ((⟨t.toArray⟩ : ByteArray).size : Int) := by show (i : Int) ≤ (t.length : Int); omega
  rw [← ext_drop ⟨t.toArray⟩ i]
  generalize (⟨t.toArray⟩ : ByteArray) = S at c2 ⊢
  go_simp
theorem slice_to (t : List UInt8) (i : Nat) (h : i ≤ t.length) (w : World) : (Instr.slice 9 (.string ⟨t.toArray⟩) none (some (.int .i64 (i : Int))) none).run Tryd.prog w = .ok (.string ⟨(t.take i).toArray⟩) w := by
  have c1 : (0 : Int) ≤ (i : Int) := by omega
  have c2 : (i : Int) ≤ ((⟨t.toArray⟩ : ByteArray).size : Int) := by show (i : Int) ≤ (t.length : Int); omega
  rw [← ext_take ⟨t.toArray⟩ i]
  generalize (⟨t.toArray⟩ : ByteArray) = S at c2 ⊢
  go_simp
theorem idx_at (P : List UInt8) (i : Nat) (n : Int) (b : UInt8) (hn : n = (i : Int)) (h : P[i]? = some b) (w : World) : (Instr.index 9 (.string ⟨P.toArray⟩) (.int .i64 n)).run Tryd.prog w = .ok (.int .u8 (b.toNat : Int)) w := by
  subst hn
  obtain ⟨hlt, hg⟩ := List.getElem?_eq_some_iff.1 h
  have c1 : (0 : Int) ≤ (i : Int) := by omega
  have c2 : (i : Int) < ((⟨P.toArray⟩ : ByteArray).size : Int) := by show (i : Int) < (P.length : Int); omega
  have c3 : i < (⟨P.toArray⟩ : ByteArray).size := hlt
  have e : (⟨P.toArray⟩ : ByteArray)[i]'c3 = b := hg
  rw [← e]
  generalize (⟨P.toArray⟩ : ByteArray) = S at c2 c3 e ⊢
  clear e hg h hlt
  go_simp
set_option maxHeartbeats 8000000 in
set_option maxRecDepth 1000000 in
theorem numbers_at (s : List UInt8) (hs : s.length ≤ 100000) (w : World) (g pb : Nat) (fs : List Nat) (op : Int) (k : Nat) (hk : fs.length = k) (hk3 : k ≤ 3) (hn : fs.Nodup) (hf : ∀ f ∈ fs, 1 ≤ f ∧ f ≤ 4) (h : Nums w g pb fs op [] w) :
    Calls Tryd.prog 51 #[.string ⟨s.toArray⟩, .slice (some ⟨pb, 0, none⟩) k k] w fun e w' => e = .returned (.tuple #[]) ∧ Nums w g pb fs op (numsV k s) w' := by
  have HN : Hid (fs.Nodup) := hn
  have HF : Hid (∀ f ∈ fs, 1 ≤ f ∧ f ≤ 4) := hf
  have H : Hid (Nums w g pb fs op [] w) := h
  clear hn hf h
  go_enter Tryd.func51, Tryd.ntmps51
  go_wp2
  go_loopg [0, 12] k (fun q s0 i wr => ∃ (j : Nat) (t : List UInt8) (vs : List Int), j + q = k ∧ i = .int .i64 (j : Int) ∧ s0 = .string ⟨t.toArray⟩ ∧ t.length ≤ 100000 ∧ vs.length = j ∧ vs ++ numsV q t = numsV k s ∧ Nums w g pb fs op vs wr)
  case atStart => exact ⟨0, s, [], by omega, rfl, rfl, hs, rfl, by simp, H.out⟩
  case round =>
    obtain ⟨j, t, vs, hjq, rfl, rfl, ht, hvs, hV, hW⟩ := hrel
    have HV : Hid (vs ++ numsV gk t = numsV k s) := hV
    have HW : Hid (Nums w g pb fs op vs wr) := hW
    clear hV hW
    cases gk with
    | zero =>
      have hj : ¬ ((j : Int) < (k : Int)) := by omega
      go_wp2
      go_end0
      exact ⟨rfl, by have := HV.out; simp only [numsV, List.append_nil] at this; rw [← this]; exact HW.out⟩
    | succ q =>
      have hj : ((j : Int) < (k : Int)) := by omega
      have hj0 : (0 : Int) ≤ (j : Int) := by omega
      obtain ⟨f, hfj⟩ : ∃ f, fs[j]? = some f := ⟨fs[j]'(by omega), List.getElem?_eq_getElem (by omega)⟩
      have hptr := HW.out.ptr j f hfj
      have Hfj : Hid (fs[j]? = some f) := hfj
      clear hfj
      go_wp2_with fail
      refine (indexAny_any ⟨t.toArray⟩ (by show t.length < _; omega) wr).mono ?_
      rintro e w1 ⟨rfl, hb1⟩
      have HW1 : Hid (Nums w g pb fs op vs w1) := HW.out.below hb1
      obtain ⟨hia, hib⟩ := ia_lt t
      clear hb1 hptr HW
      show _
      by_cases hneg : Lib.indexAny t dm < 0
      · go_wp2
        refine bodyPost_ret (results_none (by rfl) _ _ _) rfl ?_
        exact ⟨rfl, by have := HV.out; rw [numsV_end _ t (by unfold num1; rw [if_pos hneg]), List.append_nil] at this; rw [← this]; exact HW1.out⟩
      · obtain ⟨i, hi⟩ := Int.eq_ofNat_of_zero_le (show 0 ≤ Lib.indexAny t dm by omega)
        rw [hi] at hia
        have hlt : i < t.length := by omega
        have hne : t.drop i ≠ [] := fun e => by
          have := congrArg List.length e
          simp at this; omega
        have hpl : (t.drop i).length ≤ 100000 := by rw [List.length_drop]; omega
        have Hp : Hid (place t = t.drop i) := by show _ = _; unfold place; rw [hi]; rfl
        have Hia : Hid (¬ Lib.indexAny t dm < 0) := hneg
        have hs1 := slice_from t i (by omega)
        have hnn : ¬ ((i : Int) < 0) := by omega
        rw [hi]
        clear hia hib hneg hi
        generalize hP : t.drop i = P at hne hpl Hp hs1
        clear hP
        go_wp2
        have hdl := digs_le P hne
        go_loopw [7] (fun e wx => ∃ m : Nat, m ≤ digs P ∧ e = .int .i64 ((m : Int) + 1) ∧ wx = w1) (fun e _ => (((digs P : Int) + 1) - Go.RowKit.intOf e).toNat)
        case atStart => exact ⟨0, by omega, rfl, rfl⟩
        case round =>
          obtain ⟨m, hm, rfl, hw⟩ := hrel
          rw [hw]
          clear hw
          have hwr : IntKind.i64.wrap ((m : Int) + 1 + 1) = (m : Int) + 1 + 1 := wr64 (by omega) (by omega)
          have hz : ((⟨P.toArray⟩ : ByteArray).size : Int) = (P.length : Int) := rfl
          have hs2 := slice_to P (digs P + 1) hdl
          by_cases hmd : m < digs P
          · obtain ⟨b, hb, hd⟩ := digs_at P m hmd
            have hd2 := of_decide_eq_true hd
            have hlt2 := (List.getElem?_eq_some_iff.1 hb).1
            have hi1 : ((m : Int) + 1) < (P.length : Int) := by omega
            have hx := idx_at P (m + 1) ((m : Int) + 1) b (by simp) hb
            have h48 : (48 : Int) ≤ (b.toNat : Int) := by omega
            have h57 : (b.toNat : Int) ≤ 57 := by omega
            clear hb hd hd2 hlt2
            go_wp2_with fail
            go_roundw
            case measure => show (((digs P : Int) + 1) - ((m : Int) + 1 + 1)).toNat < (((digs P : Int) + 1) - ((m : Int) + 1)).toNat; omega
            exact ⟨m + 1, by omega, by simp, trivial⟩
          · obtain rfl : m = digs P := by omega
            have hde := digs_end P
            clear hmd hm
            by_cases hi1 : ((digs P : Int) + 1) < (P.length : Int)
            · obtain ⟨b, hb⟩ : ∃ b, P[digs P + 1]? = some b := ⟨P[digs P + 1]'(by omega), List.getElem?_eq_getElem (by omega)⟩
              have hd := of_decide_eq_false (hde b hb)
              have hx := idx_at P (digs P + 1) ((digs P : Int) + 1) b (by simp) hb
              clear hde hb
              by_cases h48 : (48 : Int) ≤ (b.toNat : Int)
              · have h57 : ¬ ((b.toNat : Int) ≤ 57) := by omega
                clear hd
                go_wp2_with fail
                cases hA : Lib.atoiAll (P.take (digs P + 1)) with
                | ok v =>
                  refine (atoi_ok _ (by rw [ext_take, ByteArray.size]; simp only [List.size_toArray, List.length_take]; omega) v (by rw [ext_take]; exact hA) _).mono ?_
                  rintro e w2 ⟨rfl, hb2⟩
                  have HW2 := HW1.out.below hb2
                  have hff := HF.out f (List.mem_of_getElem? Hfj.out)
                  obtain ⟨u, hu⟩ := HW2.cell f hff.2
                  have hfz : w2.frozen? ⟨g, f, none⟩ = false := frozen_of_row _ _ _ _ _ HW2.box
                  have HW3 : Hid (Nums w g pb fs op vs w2) := HW2
                  have Hff : Hid (1 ≤ f ∧ f ≤ 4) := hff
                  clear HW2 hb2 hff
                  have hq1 : num1 t = some (v, P.drop (digs P + 1)) := by
                    unfold num1; rw [if_neg (by have := Hia.out; omega), Hp.out, show numEnd P = digs P + 1 from Nat.add_comm _ _, hA]
                  have HV2 : Hid ((vs ++ [v]) ++ numsV q (P.drop (digs P + 1)) = numsV k s) := by
                    show _ = _
                    rw [← HV.out, numsV_on q t v _ hq1]; simp
                  have hwj : IntKind.i64.wrap ((j : Int) + 1) = (j : Int) + 1 := wr64 (by omega) (by omega)
                  have he : (⟨P.toArray⟩ : ByteArray).extract (digs P + 1) P.length = ⟨(P.drop (digs P + 1)).toArray⟩ := ext_drop ⟨P.toArray⟩ _
                  clear hA hq1 HV
                  go_wp2_with fail
                  go_region
                  go_wp2_with fail
                  go_roundg q
                  case measure => omega
                  case rel => exact ⟨j + 1, P.drop (digs P + 1), vs ++ [v], by omega, by simp, by first | rw [he] | rfl, by rw [List.length_drop]; omega, by simp [hvs], HV2.out, (HW3.out.store f v HN.out (by rw [hvs]; exact Hfj.out) Hff.out.1 Hff.out.2).drew⟩
                | «syntax» =>
                  refine (atoi_no _ (by rw [ext_take, ByteArray.size]; simp only [List.size_toArray, List.length_take]; omega) (by rw [ext_take]; intro v h; rw [show (⟨(P.take (digs P + 1)).toArray⟩ : ByteArray).data.toList = P.take (digs P + 1) from rfl, hA] at h; cases h) _ HW1.out.gl).mono ?_
                  rintro e w2 ⟨⟨n, tt, pp, rfl⟩, hb2⟩
                  have HW3 : Hid (Nums w g pb fs op vs w2) := HW1.out.below hb2
                  have hq1 : num1 t = none := by
                    unfold num1; rw [if_neg (by have := Hia.out; omega), Hp.out, show numEnd P = digs P + 1 from Nat.add_comm _ _, hA]
                  have HV2 : Hid (vs = numsV k s) := by
                    show _ = _
                    rw [← HV.out, numsV_end _ t hq1, List.append_nil]
                  clear hA hq1 HV hb2
                  go_wp2_with fail
                  refine bodyPost_ret (results_none (by rfl) _ _ _) rfl ?_
                  exact ⟨rfl, by rw [← HV2.out]; exact HW3.out⟩
                | range =>
                  refine (atoi_no _ (by rw [ext_take, ByteArray.size]; simp only [List.size_toArray, List.length_take]; omega) (by rw [ext_take]; intro v h; rw [show (⟨(P.take (digs P + 1)).toArray⟩ : ByteArray).data.toList = P.take (digs P + 1) from rfl, hA] at h; cases h) _ HW1.out.gl).mono ?_
                  rintro e w2 ⟨⟨n, tt, pp, rfl⟩, hb2⟩
                  have HW3 : Hid (Nums w g pb fs op vs w2) := HW1.out.below hb2
                  have hq1 : num1 t = none := by
                    unfold num1; rw [if_neg (by have := Hia.out; omega), Hp.out, show numEnd P = digs P + 1 from Nat.add_comm _ _, hA]
                  have HV2 : Hid (vs = numsV k s) := by
                    show _ = _
                    rw [← HV.out, numsV_end _ t hq1, List.append_nil]
                  clear hA hq1 HV hb2
                  go_wp2_with fail
                  refine bodyPost_ret (results_none (by rfl) _ _ _) rfl ?_
                  exact ⟨rfl, by rw [← HV2.out]; exact HW3.out⟩
              · clear hd
                go_wp2_with fail
                cases hA : Lib.atoiAll (P.take (digs P + 1)) with
                | ok v =>
                  refine (atoi_ok _ (by rw [ext_take, ByteArray.size]; simp only [List.size_toArray, List.length_take]; omega) v (by rw [ext_take]; exact hA) _).mono ?_
                  rintro e w2 ⟨rfl, hb2⟩
                  have HW2 := HW1.out.below hb2
                  have hff := HF.out f (List.mem_of_getElem? Hfj.out)
                  obtain ⟨u, hu⟩ := HW2.cell f hff.2
                  have hfz : w2.frozen? ⟨g, f, none⟩ = false := frozen_of_row _ _ _ _ _ HW2.box
                  have HW3 : Hid (Nums w g pb fs op vs w2) := HW2
                  have Hff : Hid (1 ≤ f ∧ f ≤ 4) := hff
                  clear HW2 hb2 hff
                  have hq1 : num1 t = some (v, P.drop (digs P + 1)) := by
                    unfold num1; rw [if_neg (by have := Hia.out; omega), Hp.out, show numEnd P = digs P + 1 from Nat.add_comm _ _, hA]
                  have HV2 : Hid ((vs ++ [v]) ++ numsV q (P.drop (digs P + 1)) = numsV k s) := by
                    show _ = _
                    rw [← HV.out, numsV_on q t v _ hq1]; simp
                  have hwj : IntKind.i64.wrap ((j : Int) + 1) = (j : Int) + 1 := wr64 (by omega) (by omega)
                  have he : (⟨P.toArray⟩ : ByteArray).extract (digs P + 1) P.length = ⟨(P.drop (digs P + 1)).toArray⟩ := ext_drop ⟨P.toArray⟩ _
                  clear hA hq1 HV
                  go_wp2_with fail
                  go_region
                  go_wp2_with fail
                  go_roundg q
                  case measure => omega
                  case rel => exact ⟨j + 1, P.drop (digs P + 1), vs ++ [v], by omega, by simp, by first | rw [he] | rfl, by rw [List.length_drop]; omega, by simp [hvs], HV2.out, (HW3.out.store f v HN.out (by rw [hvs]; exact Hfj.out) Hff.out.1 Hff.out.2).drew⟩
                | «syntax» =>
                  refine (atoi_no _ (by rw [ext_take, ByteArray.size]; simp only [List.size_toArray, List.length_take]; omega) (by rw [ext_take]; intro v h; rw [show (⟨(P.take (digs P + 1)).toArray⟩ : ByteArray).data.toList = P.take (digs P + 1) from rfl, hA] at h; cases h) _ HW1.out.gl).mono ?_
                  rintro e w2 ⟨⟨n, tt, pp, rfl⟩, hb2⟩
                  have HW3 : Hid (Nums w g pb fs op vs w2) := HW1.out.below hb2
                  have hq1 : num1 t = none := by
                    unfold num1; rw [if_neg (by have := Hia.out; omega), Hp.out, show numEnd P = digs P + 1 from Nat.add_comm _ _, hA]
                  have HV2 : Hid (vs = numsV k s) := by
                    show _ = _
                    rw [← HV.out, numsV_end _ t hq1, List.append_nil]
                  clear hA hq1 HV hb2
                  go_wp2_with fail
                  refine bodyPost_ret (results_none (by rfl) _ _ _) rfl ?_
                  exact ⟨rfl, by rw [← HV2.out]; exact HW3.out⟩
                | range =>
                  refine (atoi_no _ (by rw [ext_take, ByteArray.size]; simp only [List.size_toArray, List.length_take]; omega) (by rw [ext_take]; intro v h; rw [show (⟨(P.take (digs P + 1)).toArray⟩ : ByteArray).data.toList = P.take (digs P + 1) from rfl, hA] at h; cases h) _ HW1.out.gl).mono ?_
                  rintro e w2 ⟨⟨n, tt, pp, rfl⟩, hb2⟩
                  have HW3 : Hid (Nums w g pb fs op vs w2) := HW1.out.below hb2
                  have hq1 : num1 t = none := by
                    unfold num1; rw [if_neg (by have := Hia.out; omega), Hp.out, show numEnd P = digs P + 1 from Nat.add_comm _ _, hA]
                  have HV2 : Hid (vs = numsV k s) := by
                    show _ = _
                    rw [← HV.out, numsV_end _ t hq1, List.append_nil]
                  clear hA hq1 HV hb2
                  go_wp2_with fail
                  refine bodyPost_ret (results_none (by rfl) _ _ _) rfl ?_
                  exact ⟨rfl, by rw [← HV2.out]; exact HW3.out⟩
            · clear hde
              go_wp2_with fail
              cases hA : Lib.atoiAll (P.take (digs P + 1)) with
              | ok v =>
                refine (atoi_ok _ (by rw [ext_take, ByteArray.size]; simp only [List.size_toArray, List.length_take]; omega) v (by rw [ext_take]; exact hA) _).mono ?_
                rintro e w2 ⟨rfl, hb2⟩
                have HW2 := HW1.out.below hb2
                have hff := HF.out f (List.mem_of_getElem? Hfj.out)
                obtain ⟨u, hu⟩ := HW2.cell f hff.2
                have hfz : w2.frozen? ⟨g, f, none⟩ = false := frozen_of_row _ _ _ _ _ HW2.box
                have HW3 : Hid (Nums w g pb fs op vs w2) := HW2
                have Hff : Hid (1 ≤ f ∧ f ≤ 4) := hff
                clear HW2 hb2 hff
                have hq1 : num1 t = some (v, P.drop (digs P + 1)) := by
                  unfold num1; rw [if_neg (by have := Hia.out; omega), Hp.out, show numEnd P = digs P + 1 from Nat.add_comm _ _, hA]
                have HV2 : Hid ((vs ++ [v]) ++ numsV q (P.drop (digs P + 1)) = numsV k s) := by
                  show _ = _
                  rw [← HV.out, numsV_on q t v _ hq1]; simp
                have hwj : IntKind.i64.wrap ((j : Int) + 1) = (j : Int) + 1 := wr64 (by omega) (by omega)
                have he : (⟨P.toArray⟩ : ByteArray).extract (digs P + 1) P.length = ⟨(P.drop (digs P + 1)).toArray⟩ := ext_drop ⟨P.toArray⟩ _
                clear hA hq1 HV
                go_wp2_with fail
                go_region
                go_wp2_with fail
                go_roundg q
                case measure => omega
                case rel => exact ⟨j + 1, P.drop (digs P + 1), vs ++ [v], by omega, by simp, by first | rw [he] | rfl, by rw [List.length_drop]; omega, by simp [hvs], HV2.out, (HW3.out.store f v HN.out (by rw [hvs]; exact Hfj.out) Hff.out.1 Hff.out.2).drew⟩
              | «syntax» =>
                refine (atoi_no _ (by rw [ext_take, ByteArray.size]; simp only [List.size_toArray, List.length_take]; omega) (by rw [ext_take]; intro v h; rw [show (⟨(P.take (digs P + 1)).toArray⟩ : ByteArray).data.toList = P.take (digs P + 1) from rfl, hA] at h; cases h) _ HW1.out.gl).mono ?_
                rintro e w2 ⟨⟨n, tt, pp, rfl⟩, hb2⟩
                have HW3 : Hid (Nums w g pb fs op vs w2) := HW1.out.below hb2
                have hq1 : num1 t = none := by
                  unfold num1; rw [if_neg (by have := Hia.out; omega), Hp.out, show numEnd P = digs P + 1 from Nat.add_comm _ _, hA]
                have HV2 : Hid (vs = numsV k s) := by
                  show _ = _
                  rw [← HV.out, numsV_end _ t hq1, List.append_nil]
                clear hA hq1 HV hb2
                go_wp2_with fail
                refine bodyPost_ret (results_none (by rfl) _ _ _) rfl ?_
                exact ⟨rfl, by rw [← HV2.out]; exact HW3.out⟩
              | range =>
                refine (atoi_no _ (by rw [ext_take, ByteArray.size]; simp only [List.size_toArray, List.length_take]; omega) (by rw [ext_take]; intro v h; rw [show (⟨(P.take (digs P + 1)).toArray⟩ : ByteArray).data.toList = P.take (digs P + 1) from rfl, hA] at h; cases h) _ HW1.out.gl).mono ?_
                rintro e w2 ⟨⟨n, tt, pp, rfl⟩, hb2⟩
                have HW3 : Hid (Nums w g pb fs op vs w2) := HW1.out.below hb2
                have hq1 : num1 t = none := by
                  unfold num1; rw [if_neg (by have := Hia.out; omega), Hp.out, show numEnd P = digs P + 1 from Nat.add_comm _ _, hA]
                have HV2 : Hid (vs = numsV k s) := by
                  show _ = _
                  rw [← HV.out, numsV_end _ t hq1, List.append_nil]
                clear hA hq1 HV hb2
                go_wp2_with fail
                refine bodyPost_ret (results_none (by rfl) _ _ _) rfl ?_
                exact ⟨rfl, by rw [← HV2.out]; exact HW3.out⟩
end Go.Proofs.YtdjladaefoedfaaDoor
