/-
  Contracts of package elf: pieces and numbers of a file.
-/
import Derived.Test.YtegfpbffgnpebaaEE
namespace Go.Proofs.Ytegfpbffgnpebaa
open Go.RowKit El Go.Lib
open Classical
set_option linter.unusedSimpArgs false

theorem ext_mid (s : List UInt8) (a n : Nat) : (⟨s.toArray⟩ : ByteArray).extract a (a + n) = ⟨((s.drop a).take n).toArray⟩ := by
  apply ByteArray.ext
  rw [ByteArray.data_extract]
  apply Array.toList_inj.1
  rw [Array.toList_extract]
  simp
theorem piece_fits (s : List UInt8) (a n : Nat) (h : a + n ≤ s.length) (hl : s.length ≤ 281474976710656) (w : World) :
    Calls Try.prog 39 #[.string ⟨s.toArray⟩, .int .i64 (a : Int), .int .i64 (n : Int)] w fun e w' => e = .returned (.string ⟨((s.drop a).take n).toArray⟩) ∧ w' = w := by
  have hx := hideE (ext_mid s a n)
  have hw : IntKind.i64.wrap ((a : Int) + (n : Int)) = ((a + n : Nat) : Int) := by rw [wrE (by omega) (by omega)]; omega
  have hd : decide (((a : Int) + (n : Int)) ≤ (s.length : Int)) = true := decide_eq_true (by omega)
  have h0 : (0 : Int) ≤ (a : Int) := by omega
  have h1 : (a : Int) ≤ (a : Int) + (n : Int) := by omega
  have h2 : (a : Int) + (n : Int) ≤ (s.length : Int) := by omega
  go_enter Try.func39, Try.ntmps39
  go_wp2_with (go_at_call 33; refine (insist_yes _ _).mono ?_; rintro e w1 ⟨rfl, rfl⟩)
  go_ret
  exact ⟨congrArg (fun x => Ending.returned (.string x)) hx.out, rfl⟩
theorem piece_short (s : List UInt8) (a n : Nat) (h : s.length < a + n) (ha : a ≤ 281474976710656) (hn : n ≤ 281474976710656) (w : World) :
    Calls Try.prog 39 #[.string ⟨s.toArray⟩, .int .i64 (a : Int), .int .i64 (n : Int)] w fun e w' => e = ends 60 (.string ⟨#[]⟩) ∧ w' = w := by
  have hd : decide (((a : Int) + (n : Int)) ≤ (s.length : Int)) = false := decide_eq_false (by omega)
  go_enter Try.func39, Try.ntmps39
  go_wp2_with (go_at_call 33; refine (insist_no _ _ _).mono ?_; rintro e w1 ⟨rfl, rfl⟩)
  exact ⟨rfl, rfl, rfl⟩
theorem or_nat (k a b : Nat) (ha : a < 2 ^ k) (h : a + 2 ^ k * b < 4294967296) : bits .or .u32 (a : Int) ((2 ^ k * b : Nat) : Int) = ((a + 2 ^ k * b : Nat) : Int) := by
  rw [u32_or_nat _ _ (by omega) (by omega), Nat.or_comm, ← Nat.two_pow_add_eq_or_of_lt ha]
  congr 1; omega
theorem or2 (b0 b1 : UInt8) : bits .or .u32 ((b0.toNat : Int) % 4294967296) ((b1.toNat : Int) % 4294967296 * 256 % 4294967296) = ((b0.toNat + 256 * b1.toNat : Nat) : Int) := by
  have h0 := b0.toNat_lt
  have h1 := b1.toNat_lt
  have := or_nat 8 b0.toNat b1.toNat (by omega) (by omega)
  rw [show (b0.toNat : Int) % 4294967296 = (b0.toNat : Int) by omega, show (b1.toNat : Int) % 4294967296 * 256 % 4294967296 = ((2 ^ 8 * b1.toNat : Nat) : Int) by omega]
  exact this
theorem or4 (x y : Nat) (hx : x < 65536) (hy : y < 65536) : bits .or .u32 (x : Int) ((y : Int) * 65536 % 4294967296) = ((x + 65536 * y : Nat) : Int) := by
  have := or_nat 16 x y (by omega) (by omega)
  rw [show (y : Int) * 65536 % 4294967296 = ((2 ^ 16 * y : Nat) : Int) by omega]
  exact this
theorem half_any (s : List UInt8) (a : Nat) (h : a + 2 ≤ s.length) (hl : s.length ≤ 281474976710656) (w : World) :
    Calls Try.prog 37 #[.string ⟨s.toArray⟩, .int .i64 (a : Int)] w fun e w' => e = .returned (.int .u32 (le2 s a : Int)) ∧ ∃ n, w' = w.drewN n := by
  have HP := hideE (piece_fits s a 2 h hl w)
  obtain ⟨b0, b1, hb, he⟩ : ∃ b0 b1, (s.drop a).take 2 = [b0, b1] ∧ le2 s a = b0.toNat + 256 * b1.toNat := by
    refine ⟨s[a]'(by omega), s[a + 1]'(by omega), ?_, ?_⟩
    · apply List.ext_getElem?
      intro i
      match i with
      | 0 => rw [List.getElem?_take_of_lt (by omega), List.getElem?_drop]; simp
      | 1 => rw [List.getElem?_take_of_lt (by omega), List.getElem?_drop]; simp
      | i + 2 => rw [List.getElem?_eq_none (by rw [List.length_take]; omega)]; simp
    · unfold le2
      rw [getD_of (List.getElem?_eq_getElem (by omega)), getD_of (List.getElem?_eq_getElem (by omega))]
  rw [hb] at HP
  go_enter Try.func37, Try.ntmps37
  go_wp2_with (go_at_call 39; refine HP.out.mono ?_; rintro e w1 ⟨rfl, rfl⟩)
  go_quiet (fail)
  go_wp2_with fail
  go_ret
  exact ⟨congrArg (fun x => Ending.returned (.int .u32 x)) ((or2 b0 b1).trans (by rw [he])), nq, rfl⟩
theorem half_at (s : List UInt8) (i : Int) (a : Nat) (hi : i = (a : Int)) (h : a + 2 ≤ s.length) (hl : s.length ≤ 281474976710656) (w : World) :
    Calls Try.prog 37 #[.string ⟨s.toArray⟩, .int .i64 i] w fun e w' => e = .returned (.int .u32 (le2 s a : Int)) ∧ ∃ n, w' = w.drewN n := by subst hi; exact half_any s a h hl w
theorem word_any (s : List UInt8) (a : Nat) (h : a + 4 ≤ s.length) (hl : s.length ≤ 281474976710656) (w : World) :
    Calls Try.prog 38 #[.string ⟨s.toArray⟩, .int .i64 (a : Int)] w fun e w' => e = .returned (.int .u32 (le4 s a : Int)) ∧ ∃ n, w' = w.drewN n := by
  have HO := hideE (or4 _ _ (le2_lt s a) (le2_lt s (a + 2)))
  go_enter Try.func38, Try.ntmps38
  go_wp2_with fail
  refine (half_at s _ a rfl (by omega) hl _).mono ?_
  rintro e w1 ⟨rfl, n1, rfl⟩
  go_wp2_with fail
  refine (half_at s _ (a + 2) (by omega) (by omega) hl _).mono ?_
  rintro e w1 ⟨rfl, n2, rfl⟩
  go_wp2_with fail
  go_ret
  exact ⟨congrArg (fun x => Ending.returned (.int .u32 x)) HO.out, _, rfl⟩
theorem word_at (s : List UInt8) (i : Int) (a : Nat) (hi : i = (a : Int)) (h : a + 4 ≤ s.length) (hl : s.length ≤ 281474976710656) (w : World) :
    Calls Try.prog 38 #[.string ⟨s.toArray⟩, .int .i64 i] w fun e w' => e = .returned (.int .u32 (le4 s a : Int)) ∧ ∃ n, w' = w.drewN n := by subst hi; exact word_any s a h hl w
theorem piece_at (s : List UInt8) (i j : Int) (a n : Nat) (hi : i = (a : Int)) (hj : j = (n : Int)) (h : a + n ≤ s.length) (hl : s.length ≤ 281474976710656) (w : World) :
    Calls Try.prog 39 #[.string ⟨s.toArray⟩, .int .i64 i, .int .i64 j] w fun e w' => e = .returned (.string ⟨((s.drop a).take n).toArray⟩) ∧ w' = w := by subst hi hj; exact piece_fits s a n h hl w
theorem lists_eq (a b : List UInt8) : (a == b) = decide (a = b) := by by_cases h : a = b <;> simp [h]
theorem has_any (s : List UInt8) (a : Nat) (t : List UInt8) (h : a + t.length ≤ s.length) (hl : s.length ≤ 281474976710656) (w : World) :
    Calls Try.prog 36 #[.string ⟨s.toArray⟩, .int .i64 (a : Int), .string ⟨t.toArray⟩] w fun e w' => e = .returned (.bool (decide ((s.drop a).take t.length = t))) ∧ w' = w := by
  have HB := hideE (lists_eq ((s.drop a).take t.length) t)
  generalize hX : (s.drop a).take t.length = X at HB ⊢
  go_enter Try.func36, Try.ntmps36
  go_wp2_with fail
  refine (piece_at s _ _ a t.length rfl rfl h hl _).mono ?_
  rintro e w1 ⟨rfl, rfl⟩
  rw [hX]
  go_wp2_with fail
  go_ret
  exact ⟨congrArg (fun x => Ending.returned (.bool x)) HB.out, rfl⟩
theorem below_setRowE {B : Nat} {a w : World} (h : Below B a w) {g : Nat} (hg : B ≤ g) (cs : Array Value) : Below B a (w.setRow g cs) :=
  h.trans ⟨rfl, rfl, rfl, by simp, fun k hk => setRow_other w g k cs (by omega)⟩
theorem drew_low (w : World) (n : Nat) (B : Nat) : Below B w (w.drewN n) := ⟨rfl, rfl, rfl, Nat.le_refl _, fun _ _ => rfl⟩
abbrev Z6 : Array Value := #[.int .u32 0, .int .u32 0, .int .u32 0, .int .u32 0, .int .u32 0, .int .u32 0]
theorem row_any (s : List UInt8) (p : Nat) (h : p + 32 ≤ s.length) (hl : s.length ≤ 281474976710656) (w : World) :
    Calls Try.prog 41 #[.string ⟨s.toArray⟩, .int .i64 (p : Int)] w fun e w' => e = .returned (.agg #[.int .u32 (le4 s p : Int), .int .u32 (le4 s (p + 4) : Int), .int .u32 (le4 s (p + 8) : Int), .int .u32 (le4 s (p + 16) : Int), .int .u32 (le4 s (p + 20) : Int), .int .u32 (le4 s (p + 24) : Int)]) ∧ Below w.heap.size w w' := by
  have hb0 : Below w.heap.size w (w.alloc (.cells Z6 74)) := (Below.refl _ w).alloc (Nat.le_refl _) _
  go_enter Try.func41, Try.ntmps41
  go_wp2_with fail
  refine (word_at s _ p rfl (by omega) hl _).mono ?_
  rintro e w1 ⟨rfl, n0, rfl⟩
  go_wp2_with fail
  refine (word_at s _ (p + 4) (by omega) (by omega) hl _).mono ?_
  rintro e w1 ⟨rfl, n1, rfl⟩
  go_wp2_with fail
  refine (word_at s _ (p + 8) (by omega) (by omega) hl _).mono ?_
  rintro e w1 ⟨rfl, n2, rfl⟩
  go_wp2_with fail
  refine (word_at s _ (p + 16) (by omega) (by omega) hl _).mono ?_
  rintro e w1 ⟨rfl, n3, rfl⟩
  go_wp2_with fail
  refine (word_at s _ (p + 20) (by omega) (by omega) hl _).mono ?_
  rintro e w1 ⟨rfl, n4, rfl⟩
  go_wp2_with fail
  refine (word_at s _ (p + 24) (by omega) (by omega) hl _).mono ?_
  rintro e w1 ⟨rfl, n5, rfl⟩
  have hr : ∀ n, ((w.alloc (.cells Z6 74)).drewN n).heap[w.heap.size]? = some (.cells Z6 74 (0, 0)) := fun n => heap_alloc_new w _
  go_wp2_with (first | (refine wpList_store_row rfl 74 _ _ rfl w.heap.size _ rfl rfl _ Z6 (hr _) (by kernel_rfl) rfl (by kernel_rfl) ?_))
  exact bodyPost_ret (results_cell_row (p := 4) (by kernel_rfl) _ _ w.heap.size _ _ _ _ rfl (setRow_heap _ _ _ _ _ _ (hr _)) Try.underlying74 rfl (by kernel_rfl)) rfl ⟨rfl, below_setRowE (hb0.trans (drew_low _ _ _)) (Nat.le_refl _) _⟩
theorem row_at (s : List UInt8) (i : Int) (p : Nat) (hi : i = (p : Int)) (h : p + 32 ≤ s.length) (hl : s.length ≤ 281474976710656) (w : World) :
    Calls Try.prog 41 #[.string ⟨s.toArray⟩, .int .i64 i] w fun e w' => e = .returned (.agg #[.int .u32 (le4 s p : Int), .int .u32 (le4 s (p + 4) : Int), .int .u32 (le4 s (p + 8) : Int), .int .u32 (le4 s (p + 16) : Int), .int .u32 (le4 s (p + 20) : Int), .int .u32 (le4 s (p + 24) : Int)]) ∧ Below w.heap.size w w' := by
  subst hi; exact row_any s p h hl w
end Go.Proofs.Ytegfpbffgnpebaa
