/-
  The contract of the document's Do, and the walk of WordDoes: it answers true of any op and any two words.
-/
import Derived.Test.YtilphdfobflbiaaR4
namespace Go.Proofs.Ytilphdfobflbiaa
open Go.RowKit

theorem rshift_at (x X : BitVec 32) (n z : Int) (u : Bool) (w : World) (h0 : -31 ≤ n) (h1 : n ≤ 31) (hz : z = ((Wd.one u).toNat : Int)) (hX : ∀ j : Nat, j < 32 → X.getLsbD j = if 31 < (j : Int) - n then u else bitAt x ((j : Int) - n)) :
    Calls Try.prog 58 #[.int .u32 (x.toNat : Int), .int .i64 n, .int .u32 z] w fun e w' => e = .returned (.int .u32 (X.toNat : Int)) ∧ Below w.heap.size w w' := by
  subst hz; exact rshift_any x X n u w h0 h1 hX
theorem shl_bits (x : BitVec 32) (s : Nat) (j : Nat) (hj : j < 32) : (x <<< s).getLsbD j = if 31 < (j : Int) - (s : Int) then false else bitAt x ((j : Int) - (s : Int)) := by
  rw [BitVec.getLsbD_shiftLeft, if_neg (by omega)]
  unfold bitAt
  by_cases h : j < s
  · rw [decide_eq_false (p := 0 ≤ (j : Int) - (s : Int)) (by omega)]; simp [h]
  · rw [decide_eq_true (p := 0 ≤ (j : Int) - (s : Int)) (by omega), show ((j : Int) - (s : Int)).toNat = j - s by omega]; simp [h, hj]
theorem shr_bits (x : BitVec 32) (s : Nat) (j : Nat) (_hj : j < 32) : (x >>> s).getLsbD j = if 31 < (j : Int) - (-(s : Int)) then false else bitAt x ((j : Int) - (-(s : Int))) := by
  rw [BitVec.getLsbD_ushiftRight]
  unfold bitAt
  rw [decide_eq_true (p := 0 ≤ (j : Int) - (-(s : Int))) (by omega), show ((j : Int) - (-(s : Int))).toNat = s + j by omega]
  by_cases h : s + j < 32
  · rw [if_neg (by omega)]; simp
  · rw [if_pos (by omega), BitVec.getLsbD_of_ge _ _ (by omega)]
theorem sar_bits (x : BitVec 32) (s : Nat) (j : Nat) (hj : j < 32) : (x.sshiftRight s).getLsbD j = if 31 < (j : Int) - (-(s : Int)) then bitAt x 31 else bitAt x ((j : Int) - (-(s : Int))) := by
  have h3 : ¬ 32 ≤ j := by omega
  have e : (x.sshiftRight s).getLsbD j = if s + j < 32 then x.getLsbD (s + j) else x.msb := by rw [BitVec.getLsbD_sshiftRight]; simp [h3]
  rw [e]
  unfold bitAt
  rw [decide_eq_true (p := 0 ≤ (j : Int) - (-(s : Int))) (by omega), show ((j : Int) - (-(s : Int))).toNat = s + j by omega]
  by_cases h : s + j < 32
  · rw [if_pos h, if_neg (by omega)]; rfl
  · rw [if_neg h, if_pos (by omega), BitVec.msb_eq_getLsbD_last]; rfl
theorem ret_at {k : IntKind} {a b : Int} {v : Value} (h : a = b) : Ending.returned (.tuple #[.int k a, v]) = .returned (.tuple #[.int k b, v]) := by rw [h]

theorem rdo_27 (x y : BitVec 32) (w : World) : Calls Try.prog 25 #[.int .i64 27, .int .u32 (x.toNat : Int), .int .u32 (y.toNat : Int)] w fun e w' => e = .returned (.tuple #[.int .u32 ((Wd.run 27 x y).toNat : Int), .int .i64 0]) ∧ Below w.heap.size w w' := by
  go_enter Try.func25, Try.ntmps25
  go_wp2_with fail
  go_ret2
  exact ⟨ret_at (Wd.add_ x y), Below.refl _ _⟩

theorem rdo_28 (x y : BitVec 32) (w : World) : Calls Try.prog 25 #[.int .i64 28, .int .u32 (x.toNat : Int), .int .u32 (y.toNat : Int)] w fun e w' => e = .returned (.tuple #[.int .u32 ((Wd.run 28 x y).toNat : Int), .int .i64 0]) ∧ Below w.heap.size w w' := by
  go_enter Try.func25, Try.ntmps25
  go_wp2_with fail
  go_ret2
  exact ⟨ret_at (Wd.sub_ x y), Below.refl _ _⟩

theorem rdo_29 (x y : BitVec 32) (w : World) : Calls Try.prog 25 #[.int .i64 29, .int .u32 (x.toNat : Int), .int .u32 (y.toNat : Int)] w fun e w' => e = .returned (.tuple #[.int .u32 ((Wd.run 29 x y).toNat : Int), .int .i64 0]) ∧ Below w.heap.size w w' := by
  obtain ⟨s, hs, HS⟩ : ∃ s : Nat, (y.toNat : Int) % 32 = (s : Int) ∧ Hid (s = Wd.sh y) := ⟨Wd.sh y, by unfold Wd.sh; omega, rfl⟩
  have hl : s < 32 := by rw [HS.out]; exact Wd.sh_lt y
  go_enter Try.func25, Try.ntmps25
  go_wp2_with fail
  refine (rshift_at x (x <<< s) (s : Int) 0 false _ (by omega) (by omega) rfl (shl_bits x s)).mono ?_
  rintro e w' ⟨rfl, hb⟩
  go_wp2_with fail
  go_ret2
  exact ⟨ret_at (by rw [HS.out]; rfl), hb⟩

theorem rdo_30 (x y : BitVec 32) (w : World) : Calls Try.prog 25 #[.int .i64 30, .int .u32 (x.toNat : Int), .int .u32 (y.toNat : Int)] w fun e w' => e = .returned (.tuple #[.int .u32 ((Wd.run 30 x y).toNat : Int), .int .i64 0]) ∧ Below w.heap.size w w' := by
  go_enter Try.func25, Try.ntmps25
  go_wp2_with fail
  refine (num_any x _).mono ?_
  rintro e w' ⟨rfl, rfl⟩
  go_wp2_with fail
  refine (num_any y _).mono ?_
  rintro e w' ⟨rfl, rfl⟩
  go_wp2_with fail
  refine (rone_any _ _).mono ?_
  rintro e w' ⟨rfl, rfl⟩
  go_wp2_with fail
  go_ret2
  exact ⟨ret_at rfl, Below.refl _ _⟩

theorem rdo_31 (x y : BitVec 32) (w : World) : Calls Try.prog 25 #[.int .i64 31, .int .u32 (x.toNat : Int), .int .u32 (y.toNat : Int)] w fun e w' => e = .returned (.tuple #[.int .u32 ((Wd.run 31 x y).toNat : Int), .int .i64 0]) ∧ Below w.heap.size w w' := by
  go_enter Try.func25, Try.ntmps25
  go_wp2_with fail
  refine (rone_any _ _).mono ?_
  rintro e w' ⟨rfl, rfl⟩
  go_wp2_with fail
  go_ret2
  exact ⟨ret_at (by show ((Wd.one _).toNat : Int) = ((Wd.one (x.ult y)).toNat : Int); first | rfl | rw [Wd.ult_]), Below.refl _ _⟩

theorem rdo_32 (x y : BitVec 32) (w : World) : Calls Try.prog 25 #[.int .i64 32, .int .u32 (x.toNat : Int), .int .u32 (y.toNat : Int)] w fun e w' => e = .returned (.tuple #[.int .u32 ((Wd.run 32 x y).toNat : Int), .int .i64 0]) ∧ Below w.heap.size w w' := by
  go_enter Try.func25, Try.ntmps25
  go_wp2_with fail
  refine (rbits_any 32 x y _ (by decide)).mono ?_
  rintro e w' ⟨rfl, hb⟩
  go_wp2_with fail
  go_ret2
  exact ⟨rfl, hb⟩

theorem rdo_33 (x y : BitVec 32) (w : World) : Calls Try.prog 25 #[.int .i64 33, .int .u32 (x.toNat : Int), .int .u32 (y.toNat : Int)] w fun e w' => e = .returned (.tuple #[.int .u32 ((Wd.run 33 x y).toNat : Int), .int .i64 0]) ∧ Below w.heap.size w w' := by
  obtain ⟨s, hs, HS⟩ : ∃ s : Nat, (y.toNat : Int) % 32 = (s : Int) ∧ Hid (s = Wd.sh y) := ⟨Wd.sh y, by unfold Wd.sh; omega, rfl⟩
  have hl : s < 32 := by rw [HS.out]; exact Wd.sh_lt y
  go_enter Try.func25, Try.ntmps25
  go_wp2_with fail
  refine (rshift_at x (x >>> s) (-(s : Int)) 0 false _ (by omega) (by omega) rfl (shr_bits x s)).mono ?_
  rintro e w' ⟨rfl, hb⟩
  go_wp2_with fail
  go_ret2
  exact ⟨ret_at (by rw [HS.out]; rfl), hb⟩

theorem rdo_34 (x y : BitVec 32) (w : World) : Calls Try.prog 25 #[.int .i64 34, .int .u32 (x.toNat : Int), .int .u32 (y.toNat : Int)] w fun e w' => e = .returned (.tuple #[.int .u32 ((Wd.run 34 x y).toNat : Int), .int .i64 0]) ∧ Below w.heap.size w w' := by
  obtain ⟨s, hs, HS⟩ : ∃ s : Nat, (y.toNat : Int) % 32 = (s : Int) ∧ Hid (s = Wd.sh y) := ⟨Wd.sh y, by unfold Wd.sh; omega, rfl⟩
  have hl : s < 32 := by rw [HS.out]; exact Wd.sh_lt y
  go_enter Try.func25, Try.ntmps25
  go_wp2_with fail
  refine (bit_any x 31 _).mono ?_
  rintro e w' ⟨rfl, rfl⟩
  go_wp2_with fail
  refine (rshift_at x (x.sshiftRight s) (-(s : Int)) _ (bitAt x 31) _ (by omega) (by omega) rfl (sar_bits x s)).mono ?_
  rintro e w' ⟨rfl, hb⟩
  go_wp2_with fail
  go_ret2
  exact ⟨ret_at (by rw [HS.out]; rfl), hb⟩

theorem rdo_35 (x y : BitVec 32) (w : World) : Calls Try.prog 25 #[.int .i64 35, .int .u32 (x.toNat : Int), .int .u32 (y.toNat : Int)] w fun e w' => e = .returned (.tuple #[.int .u32 ((Wd.run 35 x y).toNat : Int), .int .i64 0]) ∧ Below w.heap.size w w' := by
  go_enter Try.func25, Try.ntmps25
  go_wp2_with fail
  refine (rbits_any 35 x y _ (by decide)).mono ?_
  rintro e w' ⟨rfl, hb⟩
  go_wp2_with fail
  go_ret2
  exact ⟨rfl, hb⟩

theorem rdo_36 (x y : BitVec 32) (w : World) : Calls Try.prog 25 #[.int .i64 36, .int .u32 (x.toNat : Int), .int .u32 (y.toNat : Int)] w fun e w' => e = .returned (.tuple #[.int .u32 ((Wd.run 36 x y).toNat : Int), .int .i64 0]) ∧ Below w.heap.size w w' := by
  go_enter Try.func25, Try.ntmps25
  go_wp2_with fail
  refine (rbits_any 36 x y _ (by decide)).mono ?_
  rintro e w' ⟨rfl, hb⟩
  go_wp2_with fail
  go_ret2
  exact ⟨rfl, hb⟩

theorem rdo_37 (x y : BitVec 32) (w : World) : Calls Try.prog 25 #[.int .i64 37, .int .u32 (x.toNat : Int), .int .u32 (y.toNat : Int)] w fun e w' => e = .returned (.tuple #[.int .u32 ((Wd.run 37 x y).toNat : Int), .int .i64 0]) ∧ Below w.heap.size w w' := by
  go_enter Try.func25, Try.ntmps25
  go_wp2_with fail
  go_ret2
  exact ⟨ret_at (Wd.mul_ x y), Below.refl _ _⟩

theorem rdo_38 (x y : BitVec 32) (w : World) : Calls Try.prog 25 #[.int .i64 38, .int .u32 (x.toNat : Int), .int .u32 (y.toNat : Int)] w fun e w' => e = .returned (.tuple #[.int .u32 ((Wd.run 38 x y).toNat : Int), .int .i64 0]) ∧ Below w.heap.size w w' := by
  go_enter Try.func25, Try.ntmps25
  go_wp2_with fail
  refine (rhigh_any 38 x y _ (by decide)).mono ?_
  rintro e w' ⟨rfl, rfl⟩
  go_wp2_with fail
  go_ret2
  exact ⟨rfl, Below.refl _ _⟩

theorem rdo_39 (x y : BitVec 32) (w : World) : Calls Try.prog 25 #[.int .i64 39, .int .u32 (x.toNat : Int), .int .u32 (y.toNat : Int)] w fun e w' => e = .returned (.tuple #[.int .u32 ((Wd.run 39 x y).toNat : Int), .int .i64 0]) ∧ Below w.heap.size w w' := by
  go_enter Try.func25, Try.ntmps25
  go_wp2_with fail
  refine (rhigh_any 39 x y _ (by decide)).mono ?_
  rintro e w' ⟨rfl, rfl⟩
  go_wp2_with fail
  go_ret2
  exact ⟨rfl, Below.refl _ _⟩

theorem rdo_40 (x y : BitVec 32) (w : World) : Calls Try.prog 25 #[.int .i64 40, .int .u32 (x.toNat : Int), .int .u32 (y.toNat : Int)] w fun e w' => e = .returned (.tuple #[.int .u32 ((Wd.run 40 x y).toNat : Int), .int .i64 0]) ∧ Below w.heap.size w w' := by
  go_enter Try.func25, Try.ntmps25
  go_wp2_with fail
  refine (rhigh_any 40 x y _ (by decide)).mono ?_
  rintro e w' ⟨rfl, rfl⟩
  go_wp2_with fail
  go_ret2
  exact ⟨rfl, Below.refl _ _⟩

theorem rdo_41 (x y : BitVec 32) (w : World) : Calls Try.prog 25 #[.int .i64 41, .int .u32 (x.toNat : Int), .int .u32 (y.toNat : Int)] w fun e w' => e = .returned (.tuple #[.int .u32 ((Wd.run 41 x y).toNat : Int), .int .i64 0]) ∧ Below w.heap.size w w' := by
  go_enter Try.func25, Try.ntmps25
  go_wp2_with fail
  refine (rdiv_any 41 x y _ (by decide)).mono ?_
  rintro e w' ⟨rfl, rfl⟩
  go_wp2_with fail
  go_ret2
  exact ⟨rfl, Below.refl _ _⟩

theorem rdo_42 (x y : BitVec 32) (w : World) : Calls Try.prog 25 #[.int .i64 42, .int .u32 (x.toNat : Int), .int .u32 (y.toNat : Int)] w fun e w' => e = .returned (.tuple #[.int .u32 ((Wd.run 42 x y).toNat : Int), .int .i64 0]) ∧ Below w.heap.size w w' := by
  go_enter Try.func25, Try.ntmps25
  go_wp2_with fail
  refine (rdiv_any 42 x y _ (by decide)).mono ?_
  rintro e w' ⟨rfl, rfl⟩
  go_wp2_with fail
  go_ret2
  exact ⟨rfl, Below.refl _ _⟩

theorem rdo_43 (x y : BitVec 32) (w : World) : Calls Try.prog 25 #[.int .i64 43, .int .u32 (x.toNat : Int), .int .u32 (y.toNat : Int)] w fun e w' => e = .returned (.tuple #[.int .u32 ((Wd.run 43 x y).toNat : Int), .int .i64 0]) ∧ Below w.heap.size w w' := by
  go_enter Try.func25, Try.ntmps25
  go_wp2_with fail
  refine (rdiv_any 43 x y _ (by decide)).mono ?_
  rintro e w' ⟨rfl, rfl⟩
  go_wp2_with fail
  go_ret2
  exact ⟨rfl, Below.refl _ _⟩

theorem rdo_44 (x y : BitVec 32) (w : World) : Calls Try.prog 25 #[.int .i64 44, .int .u32 (x.toNat : Int), .int .u32 (y.toNat : Int)] w fun e w' => e = .returned (.tuple #[.int .u32 ((Wd.run 44 x y).toNat : Int), .int .i64 0]) ∧ Below w.heap.size w w' := by
  go_enter Try.func25, Try.ntmps25
  go_wp2_with fail
  refine (rdiv_any 44 x y _ (by decide)).mono ?_
  rintro e w' ⟨rfl, rfl⟩
  go_wp2_with fail
  go_ret2
  exact ⟨rfl, Below.refl _ _⟩

theorem rdo_none (op : Int) (x y : BitVec 32) (w : World) (h : op < 27 ∨ 44 < op) : Calls Try.prog 25 #[.int .i64 op, .int .u32 (x.toNat : Int), .int .u32 (y.toNat : Int)] w fun e w' => e = .returned (.tuple #[.int .u32 0, .int .i64 1]) ∧ w' = w := by
  rcases h with h | h
  all_goals go_enter Try.func25, Try.ntmps25
  all_goals go_wp2
  all_goals go_ret2
  all_goals exact ⟨rfl, rfl⟩

theorem rdo_any (op : Int) (x y : BitVec 32) (w : World) : Calls Try.prog 25 #[.int .i64 op, .int .u32 (x.toNat : Int), .int .u32 (y.toNat : Int)] w fun e w' => e = .returned (.tuple #[.int .u32 ((Wd.run op x y).toNat : Int), .int .i64 (Wd.err op)]) ∧ Below w.heap.size w w' := by
  by_cases h : 27 ≤ op ∧ op ≤ 44
  · have : op = 27 ∨ op = 28 ∨ op = 29 ∨ op = 30 ∨ op = 31 ∨ op = 32 ∨ op = 33 ∨ op = 34 ∨ op = 35 ∨ op = 36 ∨ op = 37 ∨ op = 38 ∨ op = 39 ∨ op = 40 ∨ op = 41 ∨ op = 42 ∨ op = 43 ∨ op = 44 := by omega
    clear h
    rcases this with rfl | rfl | rfl | rfl | rfl | rfl | rfl | rfl | rfl | rfl | rfl | rfl | rfl | rfl | rfl | rfl | rfl | rfl
    · exact rdo_27 x y w
    · exact rdo_28 x y w
    · exact rdo_29 x y w
    · exact rdo_30 x y w
    · exact rdo_31 x y w
    · exact rdo_32 x y w
    · exact rdo_33 x y w
    · exact rdo_34 x y w
    · exact rdo_35 x y w
    · exact rdo_36 x y w
    · exact rdo_37 x y w
    · exact rdo_38 x y w
    · exact rdo_39 x y w
    · exact rdo_40 x y w
    · exact rdo_41 x y w
    · exact rdo_42 x y w
    · exact rdo_43 x y w
    · exact rdo_44 x y w
  · have e1 : Wd.err op = 1 := by unfold Wd.err Wd.known; rw [if_neg (by rw [decide_eq_true_eq]; exact h)]
    have e2 : Wd.run op x y = (BitVec.ofNat 32 0) := by
      unfold Wd.run
      repeat rw [if_neg (by omega)]
    rw [e1, e2]
    refine (rdo_none op x y w (by omega)).mono ?_
    rintro e w' ⟨rfl, rfl⟩
    exact ⟨rfl, Below.refl _ _⟩

end Go.Proofs.Ytilphdfobflbiaa
