/-
  Contracts of the document's own reckonings: each comes to the same plain function as the program's own.
-/
import Derived.Test.YtilphdfobflbiaaR2
import Derived.Test.YtilphdfobflbiaaM3
namespace Go.Proofs.Ytilphdfobflbiaa
open Go.RowKit

theorem rone_any (p : Bool) (w : World) : Calls Try.prog 59 #[.bool p] w fun e w' => e = .returned (.int .u32 ((Wd.one p).toNat : Int)) ∧ w' = w := by
  cases p
  all_goals go_enter Try.func59, Try.ntmps59
  all_goals go_wp2
  all_goals go_ret
  all_goals exact ⟨rfl, rfl⟩

theorem num_any (x : BitVec 32) (w : World) : Calls Try.prog 60 #[.int .u32 (x.toNat : Int)] w fun e w' => e = .returned (.int .i64 x.toInt) ∧ w' = w := by
  have hx := Wd.lt x
  by_cases h : (2147483648 : Int) ≤ (x.toNat : Int)
  · go_enter Try.func60, Try.ntmps60
    go_wp2
    go_ret
    exact ⟨ret_int (by rw [Wd.toInt_neg x h]), rfl⟩
  · go_enter Try.func60, Try.ntmps60
    go_wp2
    go_ret
    exact ⟨ret_int (by rw [Wd.toInt_pos x (by omega)]), rfl⟩

theorem halves_any (x y : BitVec 32) (w : World) : Calls Try.prog 85 #[.int .u32 (x.toNat : Int), .int .u32 (y.toNat : Int)] w fun e w' => e = .returned (.int .u32 ((Wd.run 40 x y).toNat : Int)) ∧ w' = w := by
  have hx := Wd.lt x
  have hy := Wd.lt y
  obtain ⟨al, h1⟩ : ∃ z, (x.toNat : Int) % 65536 = z := ⟨_, rfl⟩
  obtain ⟨ah, h2⟩ : ∃ z, (x.toNat : Int) / 65536 = z := ⟨_, rfl⟩
  obtain ⟨bl, h3⟩ : ∃ z, (y.toNat : Int) % 65536 = z := ⟨_, rfl⟩
  obtain ⟨bh, h4⟩ : ∃ z, (y.toNat : Int) / 65536 = z := ⟨_, rfl⟩
  have H := Wd.halves x y al ah bl bh h1 h2 h3 h4
  have g1 := Wd.prod_bound al bl 65535 65535 (by omega) (by omega) (by omega) (by omega)
  have g2 := Wd.prod_bound ah bl 65535 65535 (by omega) (by omega) (by omega) (by omega)
  have g3 := Wd.prod_bound al bh 65535 65535 (by omega) (by omega) (by omega) (by omega)
  have g4 := Wd.prod_bound ah bh 65535 65535 (by omega) (by omega) (by omega) (by omega)
  have a1 : 0 ≤ al ∧ al ≤ 65535 := by omega
  have a2 : 0 ≤ ah ∧ ah ≤ 65535 := by omega
  have a3 : 0 ≤ bl ∧ bl ≤ 65535 := by omega
  have a4 : 0 ≤ bh ∧ bh ≤ 65535 := by omega
  go_enter Try.func85, Try.ntmps85
  go_wp2
  go_ret
  exact ⟨ret_int (by rw [← H]; omega), rfl⟩

theorem not_le_lt {a b : Int} (h : decide (a ≤ b) = false) : b < a := by
  have := of_decide_eq_false h
  omega
theorem rhigh_any (op : Int) (x y : BitVec 32) (w : World) (h : op = 38 ∨ op = 39 ∨ op = 40) : Calls Try.prog 61 #[.int .i64 op, .int .u32 (x.toNat : Int), .int .u32 (y.toNat : Int)] w fun e w' => e = .returned (.int .u32 ((Wd.run op x y).toNat : Int)) ∧ w' = w := by
  cases ha : decide ((2147483648 : Int) ≤ (x.toNat : Int))
  · cases hb : decide ((2147483648 : Int) ≤ (y.toNat : Int))
    · rcases h with rfl | rfl | rfl
      · go_enter Try.func61, Try.ntmps61
        go_wp2_with (go_at_call 85; refine (halves_any _ _ _).mono ?_; rintro e w' ⟨rfl, rfl⟩)
        go_ret
        exact ⟨ret_int (by rw [Wd.ss_pos x y (not_le_lt hb), Wd.su_pos x y (not_le_lt ha)]), rfl⟩
      · go_enter Try.func61, Try.ntmps61
        go_wp2_with (go_at_call 85; refine (halves_any _ _ _).mono ?_; rintro e w' ⟨rfl, rfl⟩)
        go_ret
        exact ⟨ret_int (by rw [Wd.su_pos x y (not_le_lt ha)]), rfl⟩
      · go_enter Try.func61, Try.ntmps61
        go_wp2_with (go_at_call 85; refine (halves_any _ _ _).mono ?_; rintro e w' ⟨rfl, rfl⟩)
        go_ret
        exact ⟨rfl, rfl⟩
    · rcases h with rfl | rfl | rfl
      · go_enter Try.func61, Try.ntmps61
        go_wp2_with (go_at_call 85; refine (halves_any _ _ _).mono ?_; rintro e w' ⟨rfl, rfl⟩)
        go_ret
        exact ⟨ret_int (by rw [Wd.ss_neg x y (of_decide_eq_true hb), Wd.su_pos x y (not_le_lt ha), Wd.sub_]), rfl⟩
      · go_enter Try.func61, Try.ntmps61
        go_wp2_with (go_at_call 85; refine (halves_any _ _ _).mono ?_; rintro e w' ⟨rfl, rfl⟩)
        go_ret
        exact ⟨ret_int (by rw [Wd.su_pos x y (not_le_lt ha)]), rfl⟩
      · go_enter Try.func61, Try.ntmps61
        go_wp2_with (go_at_call 85; refine (halves_any _ _ _).mono ?_; rintro e w' ⟨rfl, rfl⟩)
        go_ret
        exact ⟨rfl, rfl⟩
  · cases hb : decide ((2147483648 : Int) ≤ (y.toNat : Int))
    · rcases h with rfl | rfl | rfl
      · go_enter Try.func61, Try.ntmps61
        go_wp2_with (go_at_call 85; refine (halves_any _ _ _).mono ?_; rintro e w' ⟨rfl, rfl⟩)
        go_ret
        exact ⟨ret_int (by rw [Wd.ss_pos x y (not_le_lt hb), Wd.su_neg x y (of_decide_eq_true ha), Wd.sub_]), rfl⟩
      · go_enter Try.func61, Try.ntmps61
        go_wp2_with (go_at_call 85; refine (halves_any _ _ _).mono ?_; rintro e w' ⟨rfl, rfl⟩)
        go_ret
        exact ⟨ret_int (by rw [Wd.su_neg x y (of_decide_eq_true ha), Wd.sub_]), rfl⟩
      · go_enter Try.func61, Try.ntmps61
        go_wp2_with (go_at_call 85; refine (halves_any _ _ _).mono ?_; rintro e w' ⟨rfl, rfl⟩)
        go_ret
        exact ⟨rfl, rfl⟩
    · rcases h with rfl | rfl | rfl
      · go_enter Try.func61, Try.ntmps61
        go_wp2_with (go_at_call 85; refine (halves_any _ _ _).mono ?_; rintro e w' ⟨rfl, rfl⟩)
        go_ret
        exact ⟨ret_int (by rw [Wd.ss_neg x y (of_decide_eq_true hb), Wd.su_neg x y (of_decide_eq_true ha), ← Wd.sub_, ← Wd.sub_]), rfl⟩
      · go_enter Try.func61, Try.ntmps61
        go_wp2_with (go_at_call 85; refine (halves_any _ _ _).mono ?_; rintro e w' ⟨rfl, rfl⟩)
        go_ret
        exact ⟨ret_int (by rw [Wd.su_neg x y (of_decide_eq_true ha), Wd.sub_]), rfl⟩
      · go_enter Try.func61, Try.ntmps61
        go_wp2_with (go_at_call 85; refine (halves_any _ _ _).mono ?_; rintro e w' ⟨rfl, rfl⟩)
        go_ret
        exact ⟨rfl, rfl⟩

/-- What the document's shift comes to: bit by bit. -/
theorem rshift_any (x X : BitVec 32) (n : Int) (u : Bool) (w : World) (h0 : -31 ≤ n) (h1 : n ≤ 31) (hX : ∀ j : Nat, j < 32 → X.getLsbD j = if 31 < (j : Int) - n then u else bitAt x ((j : Int) - n)) :
    Calls Try.prog 58 #[.int .u32 (x.toNat : Int), .int .i64 n, .int .u32 ((Wd.one u).toNat : Int)] w fun e w' => e = .returned (.int .u32 (X.toNat : Int)) ∧ Below w.heap.size w w' := by
  have hmk := made
  have HX : Hid (∀ j : Nat, j < 32 → X.getLsbD j = if 31 < (j : Int) - n then u else bitAt x ((j : Int) - n)) := hX
  clear hX
  go_enter Try.func58, Try.ntmps58
  go_wp2_with fail
  clear hmk
  go_loopw [8] (fun i wr => ∃ k : Nat, i = .int .i64 (k : Int) ∧ k ≤ 32 ∧ Row wr w.heap.size (fun j => decide (j < k) && X.getLsbD j) ∧ Below w.heap.size w wr) (fun i _ => (32 - intOf i).toNat)
  case atStart => exact ⟨0, rfl, by omega, (Row.made w).congr (by simp), (Below.refl _ _).alloc (Nat.le_refl _) _⟩
  case round =>
    obtain ⟨k, rfl, hk, hrow, hbel⟩ := hrel
    by_cases hlt : k < 32
    · have hcell := hrow.cell k (by omega)
      have hfree := hrow.free k
      have HR : Hid (Row wr w.heap.size (fun j => decide (j < k) && X.getLsbD j)) := hrow
      clear hrow
      by_cases hs : 31 < (k : Int) - n
      · go_wp2_with (go_at_call 42; refine (bit_any _ _ _).mono ?_; rintro e w' ⟨rfl, rfl⟩)
        go_roundw
        case rel =>
          refine ⟨k + 1, by go_num, by omega, ((HR.out.set k (by omega) _).set k (by omega) _).congr ?_, (hbel.setCell (Nat.le_refl _) _).setCell (Nat.le_refl _) _⟩
          intro j hj
          by_cases e : j = k
          · subst e; rw [if_pos rfl, HX.out j hj, if_pos hs, decide_eq_true (by omega)]; rfl
          · have e2 : (j < k + 1) = (j < k) := propext (by omega)
            simp [e, e2]
        case measure => simp [intOf]; omega
      · go_wp2_with (go_at_call 42; refine (bit_any _ _ _).mono ?_; rintro e w' ⟨rfl, rfl⟩)
        go_roundw
        case rel =>
          refine ⟨k + 1, by go_num, by omega, (HR.out.set k (by omega) _).congr ?_, hbel.setCell (Nat.le_refl _) _⟩
          intro j hj
          by_cases e : j = k
          · subst e; rw [if_pos rfl, HX.out j hj, if_neg (by omega), decide_eq_true (by omega)]; rfl
          · have e2 : (j < k + 1) = (j < k) := propext (by omega)
            simp [e, e2]
        case measure => simp [intOf]; omega
    · have hrow' : Row wr w.heap.size (fun j => X.getLsbD j) := hrow.congr (by
        intro j hj; rw [decide_eq_true (by omega)]; simp)
      clear hrow
      go_wp2_with (go_at_call 84; refine (of_any X _ _ hrow').mono ?_; rintro e w' ⟨rfl, rfl⟩)
      go_ret
      exact ⟨rfl, hbel⟩
end Go.Proofs.Ytilphdfobflbiaa
