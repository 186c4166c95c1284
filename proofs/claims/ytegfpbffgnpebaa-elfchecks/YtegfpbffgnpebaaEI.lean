/-
  Contract of package elf's program: a file's program.
-/
import Derived.Test.YtegfpbffgnpebaaEH
namespace Go.Proofs.Ytegfpbffgnpebaa
open Go.RowKit El Go.Lib
open Classical
set_option linter.unusedSimpArgs false

theorem has_is (s : List UInt8) (i : Int) (a : Nat) (t : List UInt8) (b : Bool) (hi : i = (a : Int)) (hb : decide ((s.drop a).take t.length = t) = b) (h : a + t.length ≤ s.length) (hl : s.length ≤ 281474976710656) (w : World) :
    Calls Try.prog 36 #[.string ⟨s.toArray⟩, .int .i64 i, .string ⟨t.toArray⟩] w fun e w' => e = .returned (.bool b) ∧ w' = w := by
  subst hi hb; exact has_any s a t h hl w
theorem clone_any (s : ByteArray) (w : World) (hlim : s.size ≤ 281474976710656) : Calls Try.prog 42 #[.string s] w fun e w' => e = .returned (.string s) ∧ Below w.heap.size w w' := by
  go_enter Try.func42, Try.ntmps42
  go_wp2_with (first | (go_at_call 49; refine (Try.stringslite_Clone s _ hlim).mono ?_; rintro e w1 ⟨rfl, hb1⟩))
  go_ret
  exact ⟨rfl, hb1⟩
theorem bEl (w : World) : Below w.heap.size w (w.alloc (.cells Z3 25)) := (Below.refl _ w).alloc (Nat.le_refl _) _
theorem program_short (s : List UInt8) (h : s.length < 52) (w : World) : Calls Try.prog 24 #[.string ⟨s.toArray⟩] w fun e w' => e = ends 60 .nilIface ∧ Below w.heap.size w w' := by
  have hd : decide ((52 : Int) ≤ (s.length : Int)) = false := decide_eq_false (by omega)
  go_enter Try.func24, Try.ntmps24
  go_wp2_with (go_at_call 33; refine (insist_no _ _ _).mono ?_; rintro e w1 ⟨rfl, rfl⟩)
  exact ⟨rfl, rfl, bEl w⟩
theorem program_class (s : List UInt8) (h : 52 ≤ s.length) (hn : ¬ Right s) (hl : s.length ≤ 281474976710656) (w : World) : Calls Try.prog 24 #[.string ⟨s.toArray⟩] w fun e w' => e = ends 61 .nilIface ∧ Below w.heap.size w w' := by
  have hd : decide ((52 : Int) ≤ (s.length : Int)) = true := decide_eq_true (by omega)
  by_cases hm : (s.drop 0).take 7 = El.mark
  · have Hm := hideE hm
    by_cases hk : (s.drop 16).take 8 = El.kind
    · have Hk := hideE hk
      have Hz := hideE (fun hz => hn ⟨hm, hk, hz⟩)
      clear hm hk hn
      go_enter Try.func24, Try.ntmps24
      go_wp2_with fail
      refine (insist_yes _ _).mono ?_
      rintro e w1 ⟨rfl, rfl⟩
      go_wp2_with fail
      refine (has_is s _ 0 El.mark true rfl (decide_eq_true Hm.out) (by show 0 + 7 ≤ s.length; omega) hl _).mono ?_
      rintro e w1 ⟨rfl, rfl⟩
      go_wp2_with fail
      refine (has_is s _ 16 El.kind true rfl (decide_eq_true Hk.out) (by show 16 + 8 ≤ s.length; omega) hl _).mono ?_
      rintro e w1 ⟨rfl, rfl⟩
      go_wp2_with fail
      refine (has_is s _ 40 El.sizes false rfl (decide_eq_false Hz.out) (by show 40 + 4 ≤ s.length; omega) hl _).mono ?_
      rintro e w1 ⟨rfl, rfl⟩
      go_wp2_with fail
      refine (insist_no _ _ _).mono ?_
      rintro e w1 ⟨rfl, rfl⟩
      exact ⟨rfl, rfl, bEl w⟩
    · have Hk := hideE hk
      clear hm hk hn
      go_enter Try.func24, Try.ntmps24
      go_wp2_with fail
      refine (insist_yes _ _).mono ?_
      rintro e w1 ⟨rfl, rfl⟩
      go_wp2_with fail
      refine (has_is s _ 0 El.mark true rfl (decide_eq_true Hm.out) (by show 0 + 7 ≤ s.length; omega) hl _).mono ?_
      rintro e w1 ⟨rfl, rfl⟩
      go_wp2_with fail
      refine (has_is s _ 16 El.kind false rfl (decide_eq_false Hk.out) (by show 16 + 8 ≤ s.length; omega) hl _).mono ?_
      rintro e w1 ⟨rfl, rfl⟩
      go_wp2_with fail
      refine (insist_no _ _ _).mono ?_
      rintro e w1 ⟨rfl, rfl⟩
      exact ⟨rfl, rfl, bEl w⟩
  · have Hm := hideE hm
    clear hm hn
    go_enter Try.func24, Try.ntmps24
    go_wp2_with fail
    refine (insist_yes _ _).mono ?_
    rintro e w1 ⟨rfl, rfl⟩
    go_wp2_with fail
    refine (has_is s _ 0 El.mark false rfl (decide_eq_false Hm.out) (by show 0 + 7 ≤ s.length; omega) hl _).mono ?_
    rintro e w1 ⟨rfl, rfl⟩
    go_wp2_with fail
    refine (insist_no _ _ _).mono ?_
    rintro e w1 ⟨rfl, rfl⟩
    exact ⟨rfl, rfl, bEl w⟩
theorem program_big (s : List UInt8) (h : 52 ≤ s.length) (hr : Right s) (hb : 16 < le2 s 44) (hl : s.length ≤ 281474976710656) (w : World) : Calls Try.prog 24 #[.string ⟨s.toArray⟩] w fun e w' => e = ends 2 .nilIface ∧ Below w.heap.size w w' := by
  have hd : decide ((52 : Int) ≤ (s.length : Int)) = true := decide_eq_true (by omega)
  obtain ⟨hm, hk, hz⟩ := hr
  have Hm := hideE hm
  have Hk := hideE hk
  have Hz := hideE hz
  clear hm hk hz
  have hlt := le2_lt s 44
  have hd2 : decide ((le2 s 44 : Int) ≤ 16) = false := decide_eq_false (by omega)
  go_enter Try.func24, Try.ntmps24
  go_wp2_with fail
  refine (insist_yes _ _).mono ?_
  rintro e w1 ⟨rfl, rfl⟩
  go_wp2_with fail
  refine (has_is s _ 0 El.mark true rfl (decide_eq_true Hm.out) (by show 0 + 7 ≤ s.length; omega) hl _).mono ?_
  rintro e w1 ⟨rfl, rfl⟩
  go_wp2_with fail
  refine (has_is s _ 16 El.kind true rfl (decide_eq_true Hk.out) (by show 16 + 8 ≤ s.length; omega) hl _).mono ?_
  rintro e w1 ⟨rfl, rfl⟩
  go_wp2_with fail
  refine (has_is s _ 40 El.sizes true rfl (decide_eq_true Hz.out) (by show 40 + 4 ≤ s.length; omega) hl _).mono ?_
  rintro e w1 ⟨rfl, rfl⟩
  go_wp2_with fail
  refine (insist_yes _ _).mono ?_
  rintro e w1 ⟨rfl, rfl⟩
  go_wp2_with fail
  refine (half_at s _ 44 rfl (by omega) hl _).mono ?_
  rintro e w1 ⟨rfl, n1, rfl⟩
  go_wp2_with fail
  refine (insist_no _ _ _).mono ?_
  rintro e w1 ⟨rfl, rfl⟩
  exact ⟨rfl, rfl, (bEl w).trans (drew_low _ _ _)⟩
theorem program_table (s : List UInt8) (h : 52 ≤ s.length) (hr : Right s) (hb : le2 s 44 ≤ 16) (ht : s.length < le4 s 28 + 32 * le2 s 44) (hl : s.length ≤ 281474976710656) (w : World) : Calls Try.prog 24 #[.string ⟨s.toArray⟩] w fun e w' => e = ends 60 .nilIface ∧ Below w.heap.size w w' := by
  have hd : decide ((52 : Int) ≤ (s.length : Int)) = true := decide_eq_true (by omega)
  obtain ⟨hm, hk, hz⟩ := hr
  have Hm := hideE hm
  have Hk := hideE hk
  have Hz := hideE hz
  clear hm hk hz
  have hlt := le2_lt s 44
  have hlt4 := le4_lt s 28
  have hd2 : decide ((le2 s 44 : Int) ≤ 16) = true := decide_eq_true (by omega)
  have HP : Hid (∀ j : Int, j = (le2 s 44 : Int) * 32 → ∀ W, Calls Try.prog 39 #[.string ⟨s.toArray⟩, .int .i64 (le4 s 28 : Int), .int .i64 j] W fun e w' => e = ends 60 (.string ⟨#[]⟩) ∧ w' = W) := fun j hj W => by
    have := piece_short s (le4 s 28) (32 * le2 s 44) ht (by omega) (by omega) W
    rw [hj, show (le2 s 44 : Int) * 32 = ((32 * le2 s 44 : Nat) : Int) by omega]; exact this
  go_enter Try.func24, Try.ntmps24
  go_wp2_with fail
  refine (insist_yes _ _).mono ?_
  rintro e w1 ⟨rfl, rfl⟩
  go_wp2_with fail
  refine (has_is s _ 0 El.mark true rfl (decide_eq_true Hm.out) (by show 0 + 7 ≤ s.length; omega) hl _).mono ?_
  rintro e w1 ⟨rfl, rfl⟩
  go_wp2_with fail
  refine (has_is s _ 16 El.kind true rfl (decide_eq_true Hk.out) (by show 16 + 8 ≤ s.length; omega) hl _).mono ?_
  rintro e w1 ⟨rfl, rfl⟩
  go_wp2_with fail
  refine (has_is s _ 40 El.sizes true rfl (decide_eq_true Hz.out) (by show 40 + 4 ≤ s.length; omega) hl _).mono ?_
  rintro e w1 ⟨rfl, rfl⟩
  go_wp2_with fail
  refine (insist_yes _ _).mono ?_
  rintro e w1 ⟨rfl, rfl⟩
  go_wp2_with fail
  refine (half_at s _ 44 rfl (by omega) hl _).mono ?_
  rintro e w1 ⟨rfl, n1, rfl⟩
  go_wp2_with fail
  refine (insist_yes _ _).mono ?_
  rintro e w1 ⟨rfl, rfl⟩
  go_wp2_with fail
  refine (word_at s _ 28 rfl (by omega) hl _).mono ?_
  rintro e w1 ⟨rfl, n2, rfl⟩
  go_wp2_with fail
  refine (HP.out _ (by first | rfl | omega) _).mono ?_
  rintro e w1 ⟨rfl, rfl⟩
  rw [ends_odd (by decide)]
  go_wp2_with fail
  exact ⟨rfl, rfl, (bEl w).trans (drew_low _ _ _)⟩
end Go.Proofs.Ytegfpbffgnpebaa
