/-
  The walk of InstTurned: it answers true of any word and any bit.
-/
import Derived.Test.YtoiheamdnlaahabIY
namespace Go.Proofs.Ytoiheamdnlaahab
open Go.RowKit Ip

theorem and5 (c : Int) : ∃ d : Nat, d < 32 ∧ bits .and .i64 c 31 = (d : Int) := by
  have e : bits .and .i64 c 31 = IntKind.i64.wrap ((BitVec.ofInt 64 c &&& BitVec.ofInt 64 31).toNat : Int) := rfl
  have m : (BitVec.ofInt 64 c &&& BitVec.ofInt 64 31).toNat = (BitVec.ofInt 64 c).toNat % 32 := by
    rw [BitVec.toNat_and]; exact Nat.and_two_pow_sub_one_eq_mod _ 5
  refine ⟨(BitVec.ofInt 64 c).toNat % 32, by omega, ?_⟩
  rw [e, m, IntKind.wrap_i64]; omega

theorem turned (x : BitVec 32) (d : Nat) (hd : d < 32) : ∃ y : BitVec 32, y ≠ x ∧ bits .xor .u32 (x.toNat : Int) (2 ^ d % 4294967296) = (y.toNat : Int) := by
  refine ⟨x ^^^ (BitVec.ofNat 32 1 <<< d), ?_, ?_⟩
  · intro c
    have h := congrArg (fun z => z.getLsbD d) c
    simp only [BitVec.getLsbD_xor, BitVec.getLsbD_shiftLeft] at h
    simp [hd] at h
  · have e := Wd.shl_ (BitVec.ofNat 32 1) d
    rw [show (((BitVec.ofNat 32 1).toNat : Nat) : Int) = 1 from rfl, Int.one_mul] at e
    rw [e, Wd.xor_]
theorem differ {x y : BitVec 32} (h : y ≠ x) {a b c d e a' b' c' d' e' : Int} (h1 : enc a b c d e = x) (h2 : enc a' b' c' d' e' = y) : sameX a b c d e a' b' c' d' e' = false := by
  cases hs : sameX a b c d e a' b' c' d' e' with
  | false => rfl
  | true =>
    obtain ⟨rfl, rfl, rfl, rfl, rfl⟩ := sameX_eq hs
    exact absurd (h2.symm.trans h1) h

set_option maxHeartbeats 1000000 in
theorem instTurned_walk (x : BitVec 32) (bit : Int) (w : World) : Calls Try.prog 5 #[.int .u32 (x.toNat : Int), .int .i64 bit] w fun e w' => e = .returned (.bool true) ∧ Below w.heap.size w w' := by
  have hq' := neqX
  obtain ⟨d, hd, hbit⟩ := and5 bit
  obtain ⟨y, hne, hy⟩ := turned x d hd
  have HNE : Hid (y ≠ x) := hne
  clear hne
  rcases dec_cases x with hD | ⟨zo, za, zb, zc, zn, hr, he, hD⟩
  · have HD : Hid (∀ w : World, Calls Try.prog 10 #[.int .u32 (x.toNat : Int)] w fun e w' => e = .returned (.tuple #[.agg #[.int .i64 0, .int .i64 0, .int .i64 0, .int .i64 0, .int .i64 0], .int .i64 20]) ∧ Below w.heap.size w w') := hD
    clear hD
    rcases dec_cases y with hD' | ⟨yo, ya, yb, yc, yn, hr', he', hD'⟩
    · have HD' : Hid (∀ w : World, Calls Try.prog 10 #[.int .u32 (y.toNat : Int)] w fun e w' => e = .returned (.tuple #[.agg #[.int .i64 0, .int .i64 0, .int .i64 0, .int .i64 0, .int .i64 0], .int .i64 20]) ∧ Below w.heap.size w w') := hD'
      clear hD'
      go_enter Try.func5, Try.ntmps5
      go_wp2_with fail
      refine (HD.out _).mono ?_
      rintro e w1 ⟨rfl, b1⟩
      go_wp2_with fail
      refine (HD'.out _).mono ?_
      rintro e w2 ⟨rfl, b2⟩
      obtain ⟨c2, f2⟩ := bcell b2
      have z2 : w1.heap.size < w2.heap.size := by have := b2.size; simp at this; omega
      go_wp2_with fail
      refine (fixed_any _).mono ?_
      rintro e w3 ⟨rfl, b3⟩
      go_wp2_with fail
      go_ret
      have g2 := (b1.alloc b1.size _).trans (b2.mono (by simp; have := b1.size; omega))
      exact ⟨rfl, (g2.alloc g2.size _).trans (b3.mono (by simp; have := g2.size; omega))⟩
    · have HD' : Hid (∀ w : World, Calls Try.prog 10 #[.int .u32 (y.toNat : Int)] w fun e w' => e = .returned (.tuple #[.agg #[.int .i64 yo, .int .i64 ya, .int .i64 yb, .int .i64 yc, .int .i64 yn], .int .i64 0]) ∧ Below w.heap.size w w') := hD'
      clear hD'
      clear he' hr'
      go_enter Try.func5, Try.ntmps5
      go_wp2_with fail
      refine (HD.out _).mono ?_
      rintro e w1 ⟨rfl, b1⟩
      go_wp2_with fail
      refine (HD'.out _).mono ?_
      rintro e w2 ⟨rfl, b2⟩
      obtain ⟨c2, f2⟩ := bcell b2
      have z2 : w1.heap.size < w2.heap.size := by have := b2.size; simp at this; omega
      go_wp2_with fail
      refine (fixed_any _).mono ?_
      rintro e w3 ⟨rfl, b3⟩
      go_wp2_with fail
      go_ret
      have g2 := (b1.alloc b1.size _).trans (b2.mono (by simp; have := b1.size; omega))
      exact ⟨rfl, (g2.alloc g2.size _).trans (b3.mono (by simp; have := g2.size; omega))⟩
  · have HD : Hid (∀ w : World, Calls Try.prog 10 #[.int .u32 (x.toNat : Int)] w fun e w' => e = .returned (.tuple #[.agg #[.int .i64 zo, .int .i64 za, .int .i64 zb, .int .i64 zc, .int .i64 zn], .int .i64 0]) ∧ Below w.heap.size w w') := hD
    clear hD
    have HE : Hid (enc zo za zb zc zn = x) := he
    clear he hr
    rcases dec_cases y with hD' | ⟨yo, ya, yb, yc, yn, hr', he', hD'⟩
    · have HD' : Hid (∀ w : World, Calls Try.prog 10 #[.int .u32 (y.toNat : Int)] w fun e w' => e = .returned (.tuple #[.agg #[.int .i64 0, .int .i64 0, .int .i64 0, .int .i64 0, .int .i64 0], .int .i64 20]) ∧ Below w.heap.size w w') := hD'
      clear hD'
      go_enter Try.func5, Try.ntmps5
      go_wp2_with fail
      refine (HD.out _).mono ?_
      rintro e w1 ⟨rfl, b1⟩
      go_wp2_with fail
      refine (HD'.out _).mono ?_
      rintro e w2 ⟨rfl, b2⟩
      obtain ⟨c2, f2⟩ := bcell b2
      have z2 : w1.heap.size < w2.heap.size := by have := b2.size; simp at this; omega
      go_wp2_with fail
      refine (fixed_any _).mono ?_
      rintro e w3 ⟨rfl, b3⟩
      go_wp2_with fail
      go_ret
      have g2 := (b1.alloc b1.size _).trans (b2.mono (by simp; have := b1.size; omega))
      exact ⟨rfl, (g2.alloc g2.size _).trans (b3.mono (by simp; have := g2.size; omega))⟩
    · have HD' : Hid (∀ w : World, Calls Try.prog 10 #[.int .u32 (y.toNat : Int)] w fun e w' => e = .returned (.tuple #[.agg #[.int .i64 yo, .int .i64 ya, .int .i64 yb, .int .i64 yc, .int .i64 yn], .int .i64 0]) ∧ Below w.heap.size w w') := hD'
      clear hD'
      have hs := differ HNE.out HE.out he'
      clear he' hr'
      go_enter Try.func5, Try.ntmps5
      go_wp2_with fail
      refine (HD.out _).mono ?_
      rintro e w1 ⟨rfl, b1⟩
      go_wp2_with fail
      refine (HD'.out _).mono ?_
      rintro e w2 ⟨rfl, b2⟩
      obtain ⟨c2, f2⟩ := bcell b2
      have z2 : w1.heap.size < w2.heap.size := by have := b2.size; simp at this; omega
      go_wp2_with fail
      refine (fixed_any _).mono ?_
      rintro e w3 ⟨rfl, b3⟩
      go_wp2_with fail
      go_ret
      have g2 := (b1.alloc b1.size _).trans (b2.mono (by simp; have := b1.size; omega))
      exact ⟨rfl, (g2.alloc g2.size _).trans (b3.mono (by simp; have := g2.size; omega))⟩
end Go.Proofs.Ytoiheamdnlaahab
