/-
  Contracts of the document's answer for layer 1 (fields): each comes to the same plain function as the program's own.
  Contracts of the document's Sign and Put: each comes to the same plain function as the program's own.
  Plain facts on products, quotients and shifts of words, for the document's own way of reckoning them. No program in sight.
  Contracts of the document's own reckonings: each comes to the same plain function as the program's own.
  Contracts of the document's quotients and of what it reckons bit by bit; then its Do, and the walk of WordDoes.
  The contract of the document's Do, and the walk of WordDoes: it answers true of any op and any two words.
-/
import Derived.Deep.QuietTactic
import Derived.BigQuiet
import Derived.Test.YthlefedljgmmfabZa
namespace Go.Proofs.Ythlefedljgmmfab
open Go.RowKit

/-- A block of 32 words of 0 or 1, each as told; none of its cells is frozen. -/
structure Row (w : World) (B : Nat) (f : Nat → Bool) : Prop where
  size : B < w.heap.size
  cell : ∀ j, j < 32 → w.cell? ⟨B, j, none⟩ = some (.int .u32 ((Wd.one (f j)).toNat : Int))
  free : ∀ j, w.frozen? ⟨B, j, none⟩ = false

theorem Row.drewN {w : World} {B : Nat} {f : Nat → Bool} (h : Row w B f) (n : Nat) : Row (w.drewN n) B f := ⟨h.size, h.cell, h.free⟩
theorem Row.congr {w : World} {B : Nat} {f g : Nat → Bool} (h : Row w B f) (e : ∀ j, j < 32 → f j = g j) : Row w B g :=
  ⟨h.size, fun j hj => by rw [h.cell j hj, e j hj], h.free⟩
theorem Row.set {w : World} {B : Nat} {f : Nat → Bool} (h : Row w B f) (k : Nat) (hk : k < 32) (b : Bool) :
    Row (w.setCell ⟨B, k, none⟩ (.int .u32 ((Wd.one b).toNat : Int))) B (fun j => if j = k then b else f j) := by
  refine ⟨by rw [World.size_setCell]; exact h.size, fun j hj => ?_, fun j => by rw [World.frozen?_setCell]; exact h.free j⟩
  by_cases e : j = k
  · subst e; rw [World.cell?_setCell_same _ _ _ (h.cell j hj)]; simp
  · rw [World.cell?_setCell_other _ _ _ _ (by intro c; apply e; injection c with _ c2; exact c2.symm), h.cell j hj]; simp [e]

def bitAt (x : BitVec 32) (k : Int) : Bool := decide (0 ≤ k) && x.getLsbD k.toNat

theorem bit_nat (x : BitVec 32) (k : Nat) : bits .and .u32 ((x.toNat : Int) / 2 ^ k) 1 = ((Wd.one (x.getLsbD k)).toNat : Int) := by
  rw [Wd.shr_, show (1 : Int) = (((BitVec.ofNat 32 1)).toNat : Int) from rfl, Wd.and_]
  congr 2
  apply BitVec.eq_of_getLsbD_eq; intro i hi
  rw [BitVec.getLsbD_and, BitVec.getLsbD_ushiftRight]
  unfold Wd.one
  by_cases h : i = 0
  · subst h; cases x.getLsbD k <;> simp
  · have e : ((BitVec.ofNat 32 1)).getLsbD i = false := by simp [BitVec.getLsbD_one, h]
    rw [e]; cases x.getLsbD k <;> simp [h]

theorem bit_any (x : BitVec 32) (k : Int) (w : World) : Calls Try.prog 59 #[.int .u32 (x.toNat : Int), .int .i64 k] w fun e w' => e = .returned (.int .u32 ((Wd.one (bitAt x k)).toNat : Int)) ∧ w' = w := by
  by_cases h0 : k < 0
  · go_enter Try.func59, Try.ntmps59
    go_wp2
    go_ret
    exact ⟨ret_int (by rw [show bitAt x k = false by unfold bitAt; rw [decide_eq_false (by omega)]; rfl]; rfl), rfl⟩
  · by_cases h1 : 31 < k
    · go_enter Try.func59, Try.ntmps59
      go_wp2
      go_ret
      exact ⟨ret_int (by rw [show bitAt x k = false by unfold bitAt; rw [BitVec.getLsbD_of_ge _ _ (by omega), Bool.and_false]]; rfl), rfl⟩
    · have e : bitAt x k = x.getLsbD k.toNat := by unfold bitAt; rw [decide_eq_true (by omega)]; rfl
      have H : Hid (bitAt x k = x.getLsbD k.toNat) := e
      clear e
      go_enter Try.func59, Try.ntmps59
      go_wp2
      go_ret
      exact ⟨ret_int (by rw [H.out]; exact bit_nat x _), rfl⟩

def top (x : BitVec 32) (k : Nat) : BitVec 32 := x >>> k
theorem of_step (x : BitVec 32) (k : Nat) (_h : k < 32) : (((x >>> (k + 1)).toNat : Int) * 2 + ((Wd.one (x.getLsbD k)).toNat : Int)) % 4294967296 = ((x >>> k).toNat : Int) := by
  rw [BitVec.toNat_ushiftRight, BitVec.toNat_ushiftRight, Nat.shiftRight_eq_div_pow, Nat.shiftRight_eq_div_pow]
  have e : ((Wd.one (x.getLsbD k)).toNat : Int) = ((x.toNat / 2 ^ k % 2 : Nat) : Int) := by
    have : x.getLsbD k = decide (x.toNat / 2 ^ k % 2 = 1) := by
      rw [BitVec.getLsbD, Nat.testBit_eq_decide_div_mod_eq]
    rw [this]; unfold Wd.one
    rcases Nat.mod_two_eq_zero_or_one (x.toNat / 2 ^ k) with h | h <;> simp [h]
  have d : x.toNat / 2 ^ (k + 1) = x.toNat / 2 ^ k / 2 := by rw [Nat.pow_succ, Nat.div_div_eq_div_mul]
  have l : x.toNat / 2 ^ k ≤ x.toNat := Nat.div_le_self _ _
  have := x.isLt
  rw [e, d]
  generalize x.toNat / 2 ^ k = y at *
  omega

theorem top_step (x : BitVec 32) (k : Nat) (h : k < 32) : (((top x (k + 1)).toNat : Int) * 2 % 4294967296 + ((Wd.one (x.getLsbD k)).toNat : Int)) % 4294967296 = ((top x k).toNat : Int) := by
  have e := of_step x k h
  unfold top; omega
theorem top_zero (x : BitVec 32) : top x 0 = x := by unfold top; simp
theorem shr_all (x : BitVec 32) : x >>> 32 = (BitVec.ofNat 32 0) := by
  apply BitVec.eq_of_toNat_eq; rw [BitVec.toNat_ushiftRight, Nat.shiftRight_eq_div_pow]; have := x.isLt; simp; omega

theorem of_any (x : BitVec 32) (B : Nat) (w : World) (h : Row w B (fun j => x.getLsbD j)) : Calls Try.prog 68 #[.slice (some ⟨B, 0, none⟩) 32 32] w fun e w' => e = .returned (.int .u32 (x.toNat : Int)) ∧ w' = w := by
  go_enter Try.func68, Try.ntmps68
  go_wp2
  go_loop [3, 4] (fun t i => ∃ k : Nat, k ≤ 32 ∧ i = .int .i64 ((k : Int) - 1) ∧ t = .int .u32 ((top x k).toNat : Int)) (fun _ i => (intOf i + 1).toNat)
  case atStart => exact ⟨32, Nat.le_refl _, rfl, by unfold top; rw [shr_all]; rfl⟩
  case round =>
    obtain ⟨k, hk, rfl, rfl⟩ := hrel
    by_cases hlt : 0 < k
    · obtain ⟨m, rfl⟩ : ∃ m, k = m + 1 := ⟨k - 1, by omega⟩
      have hc := h.cell m (by omega)
      go_wp2
      go_round
      case rel => exact ⟨m, by omega, rfl, by rw [top_step x m (by omega)]⟩
      case measure => simp [intOf]
    · have e : k = 0 := by omega
      subst e
      go_wp2
      go_ret
      exact ⟨ret_int (by rw [top_zero]), rfl⟩

/-- What 'make' of 32 words leaves. -/
theorem made (w : World) : (Instr.makeSlice 107 (.int .i64 32) (.int .i64 32)).run Try.prog w = .ok (.slice (some ⟨w.heap.size, 0, none⟩) 32 32) (w.alloc (.cells (Array.replicate 32 (.int .u32 0)) 23)) := by kernel_rfl

theorem Row.made (w : World) : Row (w.alloc (.cells (Array.replicate 32 (.int .u32 0)) 23)) w.heap.size (fun _ => false) := by
  refine ⟨by rw [World.size_alloc]; omega, fun j hj => ?_, fun j => World.frozen?_alloc_at _ _ _ _ rfl⟩
  rw [World.cell?_alloc_at _ _ _ _ rfl]
  simp [hj, Wd.one]

theorem bitAt_add (x : BitVec 32) (a : Int) (k : Nat) (h : 0 ≤ a) : bitAt x (a + (k : Int)) = x.getLsbD (a.toNat + k) := by
  unfold bitAt; rw [decide_eq_true (by omega), show (a + (k : Int)).toNat = a.toNat + k by omega]; rfl

end Go.Proofs.Ythlefedljgmmfab
namespace Go.Proofs.Ythlefedljgmmfab
open Go.RowKit

theorem bitAt_nat (x : BitVec 32) (k : Nat) : bitAt x (k : Int) = x.getLsbD k := by
  unfold bitAt; rw [decide_eq_true (by omega), Int.toNat_natCast]; rfl

theorem min_bit (x : BitVec 32) (n : Int) (k : Nat) (h1 : 1 ≤ n) (h2 : n ≤ 31) (hk : k < 32) : bitAt x (if n - 1 < (k : Int) then n - 1 else (k : Int)) = (Wd.sign x n).getLsbD k := by
  rw [Wd.sign_get x n h1 h2 k hk]
  unfold bitAt
  by_cases h : n - 1 < (k : Int)
  · rw [if_pos h, decide_eq_true (by omega), show (n - 1).toNat = min k (n.toNat - 1) by omega]; rfl
  · rw [if_neg h, decide_eq_true (by omega), show (k : Int).toNat = min k (n.toNat - 1) by omega]; rfl

theorem put_round_out (x : BitVec 32) (a n : Int) (v : BitVec 32) (k : Nat) (hk : k < 32) (h : Wd.within a n = true → ¬ (a.toNat ≤ k ∧ k < a.toNat + n.toNat)) (j : Nat) (_hj : j < 32) :
    (if j = k then bitAt x (k : Int) else (decide (j < k) && (Wd.put x a n v).getLsbD j)) = (decide (j < k + 1) && (Wd.put x a n v).getLsbD j) := by
  by_cases e : j = k
  · subst e
    rw [if_pos rfl, bitAt_nat, decide_eq_true (by omega)]
    by_cases hw : Wd.within a n = true
    · rw [Wd.put_get x a n v hw j hk, if_neg (h hw)]; rfl
    · unfold Wd.put; rw [if_neg hw]; rfl
  · have e2 : (j < k + 1) = (j < k) := propext (by omega)
    simp [e, e2]
theorem put_round_in (x : BitVec 32) (a n : Int) (v : BitVec 32) (k : Nat) (hk : k < 32) (hw : Wd.within a n = true) (h1 : a ≤ (k : Int)) (h2 : (k : Int) < a + n) (j : Nat) (_hj : j < 32) :
    (if j = k then bitAt v ((k : Int) - a) else if j = k then bitAt x (k : Int) else (decide (j < k) && (Wd.put x a n v).getLsbD j)) = (decide (j < k + 1) && (Wd.put x a n v).getLsbD j) := by
  have hb := Wd.of_within hw
  by_cases e : j = k
  · subst e
    rw [if_pos rfl, decide_eq_true (by omega), Wd.put_get x a n v hw j hk, if_pos (by omega)]
    unfold bitAt; rw [decide_eq_true (by omega), show ((j : Int) - a).toNat = j - a.toNat by omega]
  · have e2 : (j < k + 1) = (j < k) := propext (by omega)
    simp [e, e2]

end Go.Proofs.Ythlefedljgmmfab
namespace Go.Proofs.Ythlefedljgmmfab
open Go.RowKit
namespace Wd

theorem hi_sub (p c : Int) : hi (p - 4294967296 * c) = hi p - BitVec.ofInt 32 c := by
  unfold hi
  apply BitVec.eq_of_toNat_eq
  rw [← toNat_natCast_inj, ← sub_, ← cut_, ← cut_, ← cut_]
  omega
theorem hi_nat (a b : BitVec 32) : hi ((a.toNat : Int) * (b.toNat : Int)) = run 40 a b := by
  show hi ((a.toNat : Int) * (b.toNat : Int)) = BitVec.ofNat 32 (a.toNat * b.toNat / 4294967296)
  unfold hi
  apply BitVec.eq_of_toNat_eq
  rw [← toNat_natCast_inj, ← cut_, ← hi_uu]
  have h := produu_in a b
  omega
theorem ofInt_nat (b : BitVec 32) : BitVec.ofInt 32 (b.toNat : Int) = b := by
  apply BitVec.eq_of_toNat_eq
  rw [← toNat_natCast_inj, ← cut_]
  have := b.isLt
  omega
theorem toInt_neg (a : BitVec 32) (h : (2147483648 : Int) ≤ (a.toNat : Int)) : a.toInt = (a.toNat : Int) - 4294967296 := by
  rw [BitVec.toInt_eq_toNat_cond]; split <;> omega
theorem toInt_pos (a : BitVec 32) (h : (a.toNat : Int) < 2147483648) : a.toInt = (a.toNat : Int) := by
  have := a.isLt
  rw [BitVec.toInt_eq_toNat_cond]; split <;> omega
theorem su_neg (a b : BitVec 32) (h : (2147483648 : Int) ≤ (a.toNat : Int)) : run 39 a b = run 40 a b - b := by
  show hi (a.toInt * b.toNat) = _
  rw [toInt_neg a h, Int.sub_mul, hi_sub, hi_nat, ofInt_nat]
theorem su_pos (a b : BitVec 32) (h : (a.toNat : Int) < 2147483648) : run 39 a b = run 40 a b := by
  show hi (a.toInt * b.toNat) = _
  rw [toInt_pos a h, hi_nat]
theorem ss_pos (a b : BitVec 32) (h : (b.toNat : Int) < 2147483648) : run 38 a b = run 39 a b := by
  show hi (a.toInt * b.toInt) = hi (a.toInt * b.toNat)
  rw [toInt_pos b h]
theorem ss_neg (a b : BitVec 32) (h : (2147483648 : Int) ≤ (b.toNat : Int)) : run 38 a b = run 39 a b - a := by
  show hi (a.toInt * b.toInt) = hi (a.toInt * b.toNat) - a
  rw [toInt_neg b h, Int.mul_sub, Int.mul_comm a.toInt 4294967296, hi_sub, BitVec.ofInt_toInt]
theorem halves (x y : BitVec 32) (al ah bl bh : Int) (h1 : (x.toNat : Int) % 65536 = al) (h2 : (x.toNat : Int) / 65536 = ah) (h3 : (y.toNat : Int) % 65536 = bl) (h4 : (y.toNat : Int) / 65536 = bh) :
    (ah * bh + ah * bl / 65536 + al * bh / 65536 + (al * bl / 65536 + ah * bl % 65536 + al * bh % 65536) / 65536) % 4294967296 = ((run 40 x y).toNat : Int) := by
  rw [← hi_nat, ← hi_]
  have ex : (x.toNat : Int) = al + 65536 * ah := by omega
  have ey : (y.toNat : Int) = bl + 65536 * bh := by omega
  have e : (x.toNat : Int) * (y.toNat : Int) = al * bl + 65536 * (ah * bl) + 65536 * (al * bh) + 4294967296 * (ah * bh) := by
    rw [ex, ey, Int.add_mul, Int.mul_add, Int.mul_add, Int.mul_left_comm al 65536 bh, Int.mul_assoc 65536 ah bl, Int.mul_assoc 65536 ah (65536 * bh), Int.mul_left_comm ah 65536 bh]
    omega
  rw [e]
  omega
theorem prod_bound (a b m n : Int) (h1 : 0 ≤ a) (h2 : a ≤ m) (h3 : 0 ≤ b) (h4 : b ≤ n) : 0 ≤ a * b ∧ a * b ≤ m * n :=
  ⟨Int.mul_nonneg h1 h3, Int.mul_le_mul h2 h4 h3 (by omega)⟩
theorem tmod_sub (a b : Int) : a - a.tdiv b * b = a.tmod b := by
  have := Int.tmod_add_mul_tdiv a b
  have c := Int.mul_comm b (a.tdiv b)
  omega
end Wd
end Go.Proofs.Ythlefedljgmmfab
namespace Go.Proofs.Ythlefedljgmmfab
open Go.RowKit

theorem rone_any (p : Bool) (w : World) : Calls Try.prog 60 #[.bool p] w fun e w' => e = .returned (.int .u32 ((Wd.one p).toNat : Int)) ∧ w' = w := by
  cases p
  all_goals go_enter Try.func60, Try.ntmps60
  all_goals go_wp2
  all_goals go_ret
  all_goals exact ⟨rfl, rfl⟩

theorem num_any (x : BitVec 32) (w : World) : Calls Try.prog 61 #[.int .u32 (x.toNat : Int)] w fun e w' => e = .returned (.int .i64 x.toInt) ∧ w' = w := by
  have hx := Wd.lt x
  by_cases h : (2147483648 : Int) ≤ (x.toNat : Int)
  · go_enter Try.func61, Try.ntmps61
    go_wp2
    go_ret
    exact ⟨ret_int (by rw [Wd.toInt_neg x h]), rfl⟩
  · go_enter Try.func61, Try.ntmps61
    go_wp2
    go_ret
    exact ⟨ret_int (by rw [Wd.toInt_pos x (by omega)]), rfl⟩

theorem halves_any (x y : BitVec 32) (w : World) : Calls Try.prog 69 #[.int .u32 (x.toNat : Int), .int .u32 (y.toNat : Int)] w fun e w' => e = .returned (.int .u32 ((Wd.run 40 x y).toNat : Int)) ∧ w' = w := by
  have hx := Wd.lt x
  have hy := Wd.lt y
  obtain ⟨al, h1⟩ : ∃ z, (x.toNat : Int) % 65536 = z := ⟨_, rfl⟩
  obtain ⟨ah, h2⟩ : ∃ z, (x.toNat : Int) / 65536 = z := ⟨_, rfl⟩
  obtain ⟨bl, h3⟩ : ∃ z, (y.toNat : Int) % 65536 = z := ⟨_, rfl⟩
  obtain ⟨bh, h4⟩ : ∃ z, (y.toNat : Int) / 65536 = z := ⟨_, rfl⟩
  have H := Wd.halves x y al ah bl bh h1 h2 h3 h4
  have g1 := Wd.prod_bound al bl 65535 65535 (by omega) (by omega) (by omega) (by omega)
  have g2 := Wd.prod_bound ah bl 65535 65535 (by omega) (by omega) (by omega) (by omega)
  have g3 := Wd.prod_bound al bh 65535 65535 (by omega) (by omega) (by omega) (by omega)
  have g4 := Wd.prod_bound ah bh 65535 65535 (by omega) (by omega) (by omega) (by omega)
  have a1 : 0 ≤ al ∧ al ≤ 65535 := by omega
  have a2 : 0 ≤ ah ∧ ah ≤ 65535 := by omega
  have a3 : 0 ≤ bl ∧ bl ≤ 65535 := by omega
  have a4 : 0 ≤ bh ∧ bh ≤ 65535 := by omega
  go_enter Try.func69, Try.ntmps69
  go_wp2
  go_ret
  exact ⟨ret_int (by rw [← H]; omega), rfl⟩

theorem not_le_lt {a b : Int} (h : decide (a ≤ b) = false) : b < a := by
  have := of_decide_eq_false h
  omega
theorem rhigh_any (op : Int) (x y : BitVec 32) (w : World) (h : op = 38 ∨ op = 39 ∨ op = 40) : Calls Try.prog 62 #[.int .i64 op, .int .u32 (x.toNat : Int), .int .u32 (y.toNat : Int)] w fun e w' => e = .returned (.int .u32 ((Wd.run op x y).toNat : Int)) ∧ w' = w := by
  cases ha : decide ((2147483648 : Int) ≤ (x.toNat : Int))
  · cases hb : decide ((2147483648 : Int) ≤ (y.toNat : Int))
    · rcases h with rfl | rfl | rfl
      · go_enter Try.func62, Try.ntmps62
        go_wp2_with (go_at_call 69; refine (halves_any _ _ _).mono ?_; rintro e w' ⟨rfl, rfl⟩)
        go_ret
        exact ⟨ret_int (by rw [Wd.ss_pos x y (not_le_lt hb), Wd.su_pos x y (not_le_lt ha)]), rfl⟩
      · go_enter Try.func62, Try.ntmps62
        go_wp2_with (go_at_call 69; refine (halves_any _ _ _).mono ?_; rintro e w' ⟨rfl, rfl⟩)
        go_ret
        exact ⟨ret_int (by rw [Wd.su_pos x y (not_le_lt ha)]), rfl⟩
      · go_enter Try.func62, Try.ntmps62
        go_wp2_with (go_at_call 69; refine (halves_any _ _ _).mono ?_; rintro e w' ⟨rfl, rfl⟩)
        go_ret
        exact ⟨rfl, rfl⟩
    · rcases h with rfl | rfl | rfl
      · go_enter Try.func62, Try.ntmps62
        go_wp2_with (go_at_call 69; refine (halves_any _ _ _).mono ?_; rintro e w' ⟨rfl, rfl⟩)
        go_ret
        exact ⟨ret_int (by rw [Wd.ss_neg x y (of_decide_eq_true hb), Wd.su_pos x y (not_le_lt ha), Wd.sub_]), rfl⟩
      · go_enter Try.func62, Try.ntmps62
        go_wp2_with (go_at_call 69; refine (halves_any _ _ _).mono ?_; rintro e w' ⟨rfl, rfl⟩)
        go_ret
        exact ⟨ret_int (by rw [Wd.su_pos x y (not_le_lt ha)]), rfl⟩
      · go_enter Try.func62, Try.ntmps62
        go_wp2_with (go_at_call 69; refine (halves_any _ _ _).mono ?_; rintro e w' ⟨rfl, rfl⟩)
        go_ret
        exact ⟨rfl, rfl⟩
  · cases hb : decide ((2147483648 : Int) ≤ (y.toNat : Int))
    · rcases h with rfl | rfl | rfl
      · go_enter Try.func62, Try.ntmps62
        go_wp2_with (go_at_call 69; refine (halves_any _ _ _).mono ?_; rintro e w' ⟨rfl, rfl⟩)
        go_ret
        exact ⟨ret_int (by rw [Wd.ss_pos x y (not_le_lt hb), Wd.su_neg x y (of_decide_eq_true ha), Wd.sub_]), rfl⟩
      · go_enter Try.func62, Try.ntmps62
        go_wp2_with (go_at_call 69; refine (halves_any _ _ _).mono ?_; rintro e w' ⟨rfl, rfl⟩)
        go_ret
        exact ⟨ret_int (by rw [Wd.su_neg x y (of_decide_eq_true ha), Wd.sub_]), rfl⟩
      · go_enter Try.func62, Try.ntmps62
        go_wp2_with (go_at_call 69; refine (halves_any _ _ _).mono ?_; rintro e w' ⟨rfl, rfl⟩)
        go_ret
        exact ⟨rfl, rfl⟩
    · rcases h with rfl | rfl | rfl
      · go_enter Try.func62, Try.ntmps62
        go_wp2_with (go_at_call 69; refine (halves_any _ _ _).mono ?_; rintro e w' ⟨rfl, rfl⟩)
        go_ret
        exact ⟨ret_int (by rw [Wd.ss_neg x y (of_decide_eq_true hb), Wd.su_neg x y (of_decide_eq_true ha), ← Wd.sub_, ← Wd.sub_]), rfl⟩
      · go_enter Try.func62, Try.ntmps62
        go_wp2_with (go_at_call 69; refine (halves_any _ _ _).mono ?_; rintro e w' ⟨rfl, rfl⟩)
        go_ret
        exact ⟨ret_int (by rw [Wd.su_neg x y (of_decide_eq_true ha), Wd.sub_]), rfl⟩
      · go_enter Try.func62, Try.ntmps62
        go_wp2_with (go_at_call 69; refine (halves_any _ _ _).mono ?_; rintro e w' ⟨rfl, rfl⟩)
        go_ret
        exact ⟨rfl, rfl⟩

/-- What the document's shift comes to: bit by bit. -/
theorem rshift_any (x X : BitVec 32) (n : Int) (u : Bool) (w : World) (h0 : -31 ≤ n) (h1 : n ≤ 31) (hX : ∀ j : Nat, j < 32 → X.getLsbD j = if 31 < (j : Int) - n then u else bitAt x ((j : Int) - n)) :
    Calls Try.prog 58 #[.int .u32 (x.toNat : Int), .int .i64 n, .int .u32 ((Wd.one u).toNat : Int)] w fun e w' => e = .returned (.int .u32 (X.toNat : Int)) ∧ Below w.heap.size w w' := by
  have hmk := made
  have HX : Hid (∀ j : Nat, j < 32 → X.getLsbD j = if 31 < (j : Int) - n then u else bitAt x ((j : Int) - n)) := hX
  clear hX
  go_enter Try.func58, Try.ntmps58
  go_wp2_with fail
  clear hmk
  go_loopw [8] (fun i wr => ∃ k : Nat, i = .int .i64 (k : Int) ∧ k ≤ 32 ∧ Row wr w.heap.size (fun j => decide (j < k) && X.getLsbD j) ∧ Below w.heap.size w wr) (fun i _ => (32 - intOf i).toNat)
  case atStart => exact ⟨0, rfl, by omega, (Row.made w).congr (by simp), (Below.refl _ _).alloc (Nat.le_refl _) _⟩
  case round =>
    obtain ⟨k, rfl, hk, hrow, hbel⟩ := hrel
    by_cases hlt : k < 32
    · have hcell := hrow.cell k (by omega)
      have hfree := hrow.free k
      have HR : Hid (Row wr w.heap.size (fun j => decide (j < k) && X.getLsbD j)) := hrow
      clear hrow
      by_cases hs : 31 < (k : Int) - n
      · go_wp2_with (go_at_call 59; refine (bit_any _ _ _).mono ?_; rintro e w' ⟨rfl, rfl⟩)
        go_roundw
        case rel =>
          refine ⟨k + 1, by go_num, by omega, ((HR.out.set k (by omega) _).set k (by omega) _).congr ?_, (hbel.setCell (Nat.le_refl _) _).setCell (Nat.le_refl _) _⟩
          intro j hj
          by_cases e : j = k
          · subst e; rw [if_pos rfl, HX.out j hj, if_pos hs, decide_eq_true (by omega)]; rfl
          · have e2 : (j < k + 1) = (j < k) := propext (by omega)
            simp [e, e2]
        case measure => simp [intOf]; omega
      · go_wp2_with (go_at_call 59; refine (bit_any _ _ _).mono ?_; rintro e w' ⟨rfl, rfl⟩)
        go_roundw
        case rel =>
          refine ⟨k + 1, by go_num, by omega, (HR.out.set k (by omega) _).congr ?_, hbel.setCell (Nat.le_refl _) _⟩
          intro j hj
          by_cases e : j = k
          · subst e; rw [if_pos rfl, HX.out j hj, if_neg (by omega), decide_eq_true (by omega)]; rfl
          · have e2 : (j < k + 1) = (j < k) := propext (by omega)
            simp [e, e2]
        case measure => simp [intOf]; omega
    · have hrow' : Row wr w.heap.size (fun j => X.getLsbD j) := hrow.congr (by
        intro j hj; rw [decide_eq_true (by omega)]; simp)
      clear hrow
      go_wp2_with (go_at_call 68; refine (of_any X _ _ hrow').mono ?_; rintro e w' ⟨rfl, rfl⟩)
      go_ret
      exact ⟨rfl, hbel⟩
end Go.Proofs.Ythlefedljgmmfab
namespace Go.Proofs.Ythlefedljgmmfab
open Go.RowKit

theorem eq0_of {y : BitVec 32} (h : ((y.toNat : Int) == 0) = false) : (1 : Int) ≤ (y.toNat : Int) := by
  have : (y.toNat : Int) ≠ 0 := by simpa using h
  omega

theorem w64 (n : Int) : wrap64 n % 4294967296 = n % 4294967296 := by unfold wrap64; omega
theorem w64s (n p : Int) : wrap64 (n - wrap64 p) % 4294967296 = (n - p) % 4294967296 := by unfold wrap64; omega
theorem w64_nat (x : BitVec 32) : wrap64 (x.toNat : Int) = (x.toNat : Int) := by
  have := x.isLt
  exact IntWalk.wrap64_in _ (by omega)
theorem modu_back (x y : BitVec 32) : (x.toNat : Int) - ((x / y).toNat : Int) * (y.toNat : Int) = (x.toNat : Int) % (y.toNat : Int) := by
  rw [← Wd.divu_, Int.emod_def, Int.mul_comm]

theorem rdiv_zero (op : Int) (x y : BitVec 32) (w : World) (h : op = 41 ∨ op = 42 ∨ op = 43 ∨ op = 44) (hz : ((y.toNat : Int) == 0) = true) : Calls Try.prog 63 #[.int .i64 op, .int .u32 (x.toNat : Int), .int .u32 (y.toNat : Int)] w fun e w' => e = .returned (.int .u32 ((Wd.run op x y).toNat : Int)) ∧ w' = w := by
  have e := Wd.eq0 y hz
  rcases h with rfl | rfl | rfl | rfl
  · go_enter Try.func63, Try.ntmps63
    go_wp2
    go_ret
    exact ⟨ret_int (by show _ = ((Wd.quot x y).toNat : Int); unfold Wd.quot; rw [if_pos e]; rfl), rfl⟩
  · go_enter Try.func63, Try.ntmps63
    go_wp2
    go_ret
    exact ⟨ret_int (by show _ = ((Wd.quotu x y).toNat : Int); unfold Wd.quotu; rw [if_pos e]; rfl), rfl⟩
  · go_enter Try.func63, Try.ntmps63
    go_wp2
    go_ret
    exact ⟨ret_int (by show _ = ((Wd.rest x y).toNat : Int); unfold Wd.rest; rw [if_pos e]), rfl⟩
  · go_enter Try.func63, Try.ntmps63
    go_wp2
    go_ret
    exact ⟨ret_int (by show _ = ((Wd.restu x y).toNat : Int); unfold Wd.restu; rw [if_pos e]), rfl⟩

theorem rdiv_any (op : Int) (x y : BitVec 32) (w : World) (h : op = 41 ∨ op = 42 ∨ op = 43 ∨ op = 44) : Calls Try.prog 63 #[.int .i64 op, .int .u32 (x.toNat : Int), .int .u32 (y.toNat : Int)] w fun e w' => e = .returned (.int .u32 ((Wd.run op x y).toNat : Int)) ∧ w' = w := by
  by_cases hz : ((y.toNat : Int) == 0) = true
  · exact rdiv_zero op x y w h hz
  · have hz' : ((y.toNat : Int) == 0) = false := by simpa using hz
    have e := Wd.ne0 y hz'
    have hp := eq0_of hz'
    have hn := Wd.toInt_ne y e
    have hd := Wd.tdiv_in x y
    have x1 := Wd.toInt_lo x
    have x2 := Wd.toInt_hi x
    clear hz
    have hx := Wd.lt x
    have hy := Wd.lt y
    rcases h with rfl | rfl | rfl | rfl
    · go_enter Try.func63, Try.ntmps63
      go_wp2_with (go_at_call 61; refine (num_any _ _).mono ?_; rintro e w' ⟨rfl, rfl⟩)
      go_ret
      exact ⟨ret_int (by show _ = ((Wd.quot x y).toNat : Int); unfold Wd.quot; rw [if_neg e]; first | exact Wd.cut_ _ | (rw [IntWalk.wrap64_in _ (by omega)]; exact Wd.cut_ _)), rfl⟩
    · go_enter Try.func63, Try.ntmps63
      go_wp2
      go_ret
      exact ⟨ret_int (by show _ = ((Wd.quotu x y).toNat : Int); unfold Wd.quotu; rw [if_neg e, w64, Wd.divu_]; exact Int.emod_eq_of_lt (Wd.ge _) (Wd.lt _)), rfl⟩
    · go_enter Try.func63, Try.ntmps63
      go_wp2_with (go_at_call 61; refine (num_any _ _).mono ?_; rintro e w' ⟨rfl, rfl⟩)
      go_ret
      exact ⟨ret_int (by show _ = ((Wd.rest x y).toNat : Int); unfold Wd.rest; rw [if_neg e, w64s, Wd.tmod_sub]; exact Wd.cut_ _), rfl⟩
    · go_enter Try.func63, Try.ntmps63
      go_wp2
      go_ret
      exact ⟨ret_int (by show _ = ((Wd.restu x y).toNat : Int); unfold Wd.restu; rw [if_neg e, Wd.divu_, w64_nat, w64s, modu_back, Wd.modu_]; exact Int.emod_eq_of_lt (Wd.ge _) (Wd.lt _)), rfl⟩

theorem row_step (op : Int) (x y : BitVec 32) (k : Nat) (hk : k < 32) {wr : World} {B : Nat} (h : Row wr B (fun j => decide (j < k) && (Wd.run op x y).getLsbD j)) (r : Bool) (hr : (Wd.run op x y).getLsbD k = r) :
    Row (wr.setCell ⟨B, k, none⟩ (.int .u32 ((Wd.one r).toNat : Int))) B (fun j => decide (j < k + 1) && (Wd.run op x y).getLsbD j) := by
  refine (h.set k hk r).congr fun j _ => ?_
  by_cases e : j = k
  · subst e; rw [if_pos rfl, decide_eq_true (by omega), hr]; rfl
  · have e2 : (j < k + 1) = (j < k) := propext (by omega)
    simp [e, e2]

theorem rbits_any (op : Int) (x y : BitVec 32) (w : World) (h : op = 36 ∨ op = 35 ∨ op = 32) : Calls Try.prog 57 #[.int .i64 op, .int .u32 (x.toNat : Int), .int .u32 (y.toNat : Int)] w fun e w' => e = .returned (.int .u32 ((Wd.run op x y).toNat : Int)) ∧ Below w.heap.size w w' := by
  have hmk := made
  have o1 : ((Wd.one true).toNat : Int) = 1 := rfl
  have o0 : ((Wd.one false).toNat : Int) = 0 := rfl
  have HX : Hid (op = 36 ∨ op = 35 ∨ op = 32) := h
  clear h
  go_enter Try.func57, Try.ntmps57
  go_wp2_with fail
  clear hmk
  go_loopw [8, 9, 10] (fun i _ _ wr => ∃ k : Nat, i = .int .i64 (k : Int) ∧ k ≤ 32 ∧ Row wr w.heap.size (fun j => decide (j < k) && (Wd.run op x y).getLsbD j) ∧ Below w.heap.size w wr) (fun i _ _ _ => (32 - intOf i).toNat)
  case atStart => exact ⟨0, rfl, by omega, (Row.made w).congr (by simp), (Below.refl _ _).alloc (Nat.le_refl _) _⟩
  case round =>
    obtain ⟨k, rfl, hk, hrow, hbel⟩ := hrel
    by_cases hlt : k < 32
    · have hcell := hrow.cell k (by omega)
      have hfree := hrow.free k
      have HR : Hid (Row wr w.heap.size (fun j => decide (j < k) && (Wd.run op x y).getLsbD j)) := hrow
      clear hrow
      obtain ⟨p, hp⟩ : ∃ p, bitAt x (k : Int) = p := ⟨_, rfl⟩
      obtain ⟨q, hq⟩ : ∃ q, bitAt y (k : Int) = q := ⟨_, rfl⟩
      have Hp : Hid (x.getLsbD k = p) := by rw [← bitAt_nat]; exact hp
      have Hq : Hid (y.getLsbD k = q) := by rw [← bitAt_nat]; exact hq
      rcases HX.out with rfl | rfl | rfl
      · have Hr : Hid ((Wd.run 36 x y).getLsbD k = (p && q)) := by
          show (x &&& y).getLsbD k = (p && q)
          rw [BitVec.getLsbD_and, Hp.out, Hq.out]
        cases p <;> cases q
        all_goals go_wp2_with (go_at_call 59; refine (bit_any _ _ _).mono ?_; rintro e w' ⟨rfl, rfl⟩)
        all_goals go_roundw
        all_goals first | (case rel => exact ⟨k + 1, by go_num, by omega, row_step 36 x y k hlt HR.out _ Hr.out, hbel.setCell (Nat.le_refl _) _⟩) | skip
        all_goals (simp [intOf]; omega)
      · have Hr : Hid ((Wd.run 35 x y).getLsbD k = (p || q)) := by
          show (x ||| y).getLsbD k = (p || q)
          rw [BitVec.getLsbD_or, Hp.out, Hq.out]
        cases p <;> cases q
        all_goals go_wp2_with (go_at_call 59; refine (bit_any _ _ _).mono ?_; rintro e w' ⟨rfl, rfl⟩)
        all_goals go_roundw
        all_goals first | (case rel => exact ⟨k + 1, by go_num, by omega, row_step 35 x y k hlt HR.out _ Hr.out, hbel.setCell (Nat.le_refl _) _⟩) | skip
        all_goals (simp [intOf]; omega)
      · have Hr : Hid ((Wd.run 32 x y).getLsbD k = (p ^^ q)) := by
          show (x ^^^ y).getLsbD k = (p ^^ q)
          rw [BitVec.getLsbD_xor, Hp.out, Hq.out]
        cases p <;> cases q
        all_goals go_wp2_with (go_at_call 59; refine (bit_any _ _ _).mono ?_; rintro e w' ⟨rfl, rfl⟩)
        all_goals go_roundw
        all_goals first | (case rel => exact ⟨k + 1, by go_num, by omega, row_step 32 x y k hlt HR.out _ Hr.out, hbel.setCell (Nat.le_refl _) _⟩) | skip
        all_goals (simp [intOf]; omega)
    · have hrow' : Row wr w.heap.size (fun j => (Wd.run op x y).getLsbD j) := hrow.congr (by
        intro j hj; rw [decide_eq_true (by omega)]; simp)
      clear hrow
      go_wp2_with (go_at_call 68; refine (of_any (Wd.run op x y) _ _ hrow').mono ?_; rintro e w' ⟨rfl, rfl⟩)
      go_ret
      exact ⟨rfl, hbel⟩
end Go.Proofs.Ythlefedljgmmfab
namespace Go.Proofs.Ythlefedljgmmfab
open Go.RowKit

theorem rshift_at (x X : BitVec 32) (n z : Int) (u : Bool) (w : World) (h0 : -31 ≤ n) (h1 : n ≤ 31) (hz : z = ((Wd.one u).toNat : Int)) (hX : ∀ j : Nat, j < 32 → X.getLsbD j = if 31 < (j : Int) - n then u else bitAt x ((j : Int) - n)) :
    Calls Try.prog 58 #[.int .u32 (x.toNat : Int), .int .i64 n, .int .u32 z] w fun e w' => e = .returned (.int .u32 (X.toNat : Int)) ∧ Below w.heap.size w w' := by
  subst hz; exact rshift_any x X n u w h0 h1 hX
theorem shl_bits (x : BitVec 32) (s : Nat) (j : Nat) (hj : j < 32) : (x <<< s).getLsbD j = if 31 < (j : Int) - (s : Int) then false else bitAt x ((j : Int) - (s : Int)) := by
  rw [BitVec.getLsbD_shiftLeft, if_neg (by omega)]
  unfold bitAt
  by_cases h : j < s
  · rw [decide_eq_false (p := 0 ≤ (j : Int) - (s : Int)) (by omega)]; simp [h]
  · rw [decide_eq_true (p := 0 ≤ (j : Int) - (s : Int)) (by omega), show ((j : Int) - (s : Int)).toNat = j - s by omega]; simp [h, hj]
theorem shr_bits (x : BitVec 32) (s : Nat) (j : Nat) (_hj : j < 32) : (x >>> s).getLsbD j = if 31 < (j : Int) - (-(s : Int)) then false else bitAt x ((j : Int) - (-(s : Int))) := by
  rw [BitVec.getLsbD_ushiftRight]
  unfold bitAt
  rw [decide_eq_true (p := 0 ≤ (j : Int) - (-(s : Int))) (by omega), show ((j : Int) - (-(s : Int))).toNat = s + j by omega]
  by_cases h : s + j < 32
  · rw [if_neg (by omega)]; simp
  · rw [if_pos (by omega), BitVec.getLsbD_of_ge _ _ (by omega)]
theorem sar_bits (x : BitVec 32) (s : Nat) (j : Nat) (hj : j < 32) : (x.sshiftRight s).getLsbD j = if 31 < (j : Int) - (-(s : Int)) then bitAt x 31 else bitAt x ((j : Int) - (-(s : Int))) := by
  have h3 : ¬ 32 ≤ j := by omega
  have e : (x.sshiftRight s).getLsbD j = if s + j < 32 then x.getLsbD (s + j) else x.msb := by rw [BitVec.getLsbD_sshiftRight]; simp [h3]
  rw [e]
  unfold bitAt
  rw [decide_eq_true (p := 0 ≤ (j : Int) - (-(s : Int))) (by omega), show ((j : Int) - (-(s : Int))).toNat = s + j by omega]
  by_cases h : s + j < 32
  · rw [if_pos h, if_neg (by omega)]; rfl
  · rw [if_neg h, if_pos (by omega), BitVec.msb_eq_getLsbD_last]; rfl
theorem ret_at {k : IntKind} {a b : Int} {v : Value} (h : a = b) : Ending.returned (.tuple #[.int k a, v]) = .returned (.tuple #[.int k b, v]) := by rw [h]

theorem rdo_27 (x y : BitVec 32) (w : World) : Calls Try.prog 51 #[.int .i64 27, .int .u32 (x.toNat : Int), .int .u32 (y.toNat : Int)] w fun e w' => e = .returned (.tuple #[.int .u32 ((Wd.run 27 x y).toNat : Int), .int .i64 0]) ∧ Below w.heap.size w w' := by
  go_enter Try.func51, Try.ntmps51
  go_wp2_with fail
  go_ret2
  exact ⟨ret_at (Wd.add_ x y), Below.refl _ _⟩

theorem rdo_28 (x y : BitVec 32) (w : World) : Calls Try.prog 51 #[.int .i64 28, .int .u32 (x.toNat : Int), .int .u32 (y.toNat : Int)] w fun e w' => e = .returned (.tuple #[.int .u32 ((Wd.run 28 x y).toNat : Int), .int .i64 0]) ∧ Below w.heap.size w w' := by
  go_enter Try.func51, Try.ntmps51
  go_wp2_with fail
  go_ret2
  exact ⟨ret_at (Wd.sub_ x y), Below.refl _ _⟩

theorem rdo_29 (x y : BitVec 32) (w : World) : Calls Try.prog 51 #[.int .i64 29, .int .u32 (x.toNat : Int), .int .u32 (y.toNat : Int)] w fun e w' => e = .returned (.tuple #[.int .u32 ((Wd.run 29 x y).toNat : Int), .int .i64 0]) ∧ Below w.heap.size w w' := by
  obtain ⟨s, hs, HS⟩ : ∃ s : Nat, (y.toNat : Int) % 32 = (s : Int) ∧ Hid (s = Wd.sh y) := ⟨Wd.sh y, by unfold Wd.sh; omega, rfl⟩
  have hl : s < 32 := by rw [HS.out]; exact Wd.sh_lt y
  go_enter Try.func51, Try.ntmps51
  go_wp2_with fail
  refine (rshift_at x (x <<< s) (s : Int) 0 false _ (by omega) (by omega) rfl (shl_bits x s)).mono ?_
  rintro e w' ⟨rfl, hb⟩
  go_wp2_with fail
  go_ret2
  exact ⟨ret_at (by rw [HS.out]; rfl), hb⟩

theorem rdo_30 (x y : BitVec 32) (w : World) : Calls Try.prog 51 #[.int .i64 30, .int .u32 (x.toNat : Int), .int .u32 (y.toNat : Int)] w fun e w' => e = .returned (.tuple #[.int .u32 ((Wd.run 30 x y).toNat : Int), .int .i64 0]) ∧ Below w.heap.size w w' := by
  go_enter Try.func51, Try.ntmps51
  go_wp2_with fail
  refine (num_any x _).mono ?_
  rintro e w' ⟨rfl, rfl⟩
  go_wp2_with fail
  refine (num_any y _).mono ?_
  rintro e w' ⟨rfl, rfl⟩
  go_wp2_with fail
  refine (rone_any _ _).mono ?_
  rintro e w' ⟨rfl, rfl⟩
  go_wp2_with fail
  go_ret2
  exact ⟨ret_at rfl, Below.refl _ _⟩

theorem rdo_31 (x y : BitVec 32) (w : World) : Calls Try.prog 51 #[.int .i64 31, .int .u32 (x.toNat : Int), .int .u32 (y.toNat : Int)] w fun e w' => e = .returned (.tuple #[.int .u32 ((Wd.run 31 x y).toNat : Int), .int .i64 0]) ∧ Below w.heap.size w w' := by
  go_enter Try.func51, Try.ntmps51
  go_wp2_with fail
  refine (rone_any _ _).mono ?_
  rintro e w' ⟨rfl, rfl⟩
  go_wp2_with fail
  go_ret2
  exact ⟨ret_at (by show ((Wd.one _).toNat : Int) = ((Wd.one (x.ult y)).toNat : Int); first | rfl | rw [Wd.ult_]), Below.refl _ _⟩

theorem rdo_32 (x y : BitVec 32) (w : World) : Calls Try.prog 51 #[.int .i64 32, .int .u32 (x.toNat : Int), .int .u32 (y.toNat : Int)] w fun e w' => e = .returned (.tuple #[.int .u32 ((Wd.run 32 x y).toNat : Int), .int .i64 0]) ∧ Below w.heap.size w w' := by
  go_enter Try.func51, Try.ntmps51
  go_wp2_with fail
  refine (rbits_any 32 x y _ (by decide)).mono ?_
  rintro e w' ⟨rfl, hb⟩
  go_wp2_with fail
  go_ret2
  exact ⟨rfl, hb⟩

theorem rdo_33 (x y : BitVec 32) (w : World) : Calls Try.prog 51 #[.int .i64 33, .int .u32 (x.toNat : Int), .int .u32 (y.toNat : Int)] w fun e w' => e = .returned (.tuple #[.int .u32 ((Wd.run 33 x y).toNat : Int), .int .i64 0]) ∧ Below w.heap.size w w' := by
  obtain ⟨s, hs, HS⟩ : ∃ s : Nat, (y.toNat : Int) % 32 = (s : Int) ∧ Hid (s = Wd.sh y) := ⟨Wd.sh y, by unfold Wd.sh; omega, rfl⟩
  have hl : s < 32 := by rw [HS.out]; exact Wd.sh_lt y
  go_enter Try.func51, Try.ntmps51
  go_wp2_with fail
  refine (rshift_at x (x >>> s) (-(s : Int)) 0 false _ (by omega) (by omega) rfl (shr_bits x s)).mono ?_
  rintro e w' ⟨rfl, hb⟩
  go_wp2_with fail
  go_ret2
  exact ⟨ret_at (by rw [HS.out]; rfl), hb⟩

theorem rdo_34 (x y : BitVec 32) (w : World) : Calls Try.prog 51 #[.int .i64 34, .int .u32 (x.toNat : Int), .int .u32 (y.toNat : Int)] w fun e w' => e = .returned (.tuple #[.int .u32 ((Wd.run 34 x y).toNat : Int), .int .i64 0]) ∧ Below w.heap.size w w' := by
  obtain ⟨s, hs, HS⟩ : ∃ s : Nat, (y.toNat : Int) % 32 = (s : Int) ∧ Hid (s = Wd.sh y) := ⟨Wd.sh y, by unfold Wd.sh; omega, rfl⟩
  have hl : s < 32 := by rw [HS.out]; exact Wd.sh_lt y
  go_enter Try.func51, Try.ntmps51
  go_wp2_with fail
  refine (bit_any x 31 _).mono ?_
  rintro e w' ⟨rfl, rfl⟩
  go_wp2_with fail
  refine (rshift_at x (x.sshiftRight s) (-(s : Int)) _ (bitAt x 31) _ (by omega) (by omega) rfl (sar_bits x s)).mono ?_
  rintro e w' ⟨rfl, hb⟩
  go_wp2_with fail
  go_ret2
  exact ⟨ret_at (by rw [HS.out]; rfl), hb⟩

theorem rdo_35 (x y : BitVec 32) (w : World) : Calls Try.prog 51 #[.int .i64 35, .int .u32 (x.toNat : Int), .int .u32 (y.toNat : Int)] w fun e w' => e = .returned (.tuple #[.int .u32 ((Wd.run 35 x y).toNat : Int), .int .i64 0]) ∧ Below w.heap.size w w' := by
  go_enter Try.func51, Try.ntmps51
  go_wp2_with fail
  refine (rbits_any 35 x y _ (by decide)).mono ?_
  rintro e w' ⟨rfl, hb⟩
  go_wp2_with fail
  go_ret2
  exact ⟨rfl, hb⟩

theorem rdo_36 (x y : BitVec 32) (w : World) : Calls Try.prog 51 #[.int .i64 36, .int .u32 (x.toNat : Int), .int .u32 (y.toNat : Int)] w fun e w' => e = .returned (.tuple #[.int .u32 ((Wd.run 36 x y).toNat : Int), .int .i64 0]) ∧ Below w.heap.size w w' := by
  go_enter Try.func51, Try.ntmps51
  go_wp2_with fail
  refine (rbits_any 36 x y _ (by decide)).mono ?_
  rintro e w' ⟨rfl, hb⟩
  go_wp2_with fail
  go_ret2
  exact ⟨rfl, hb⟩

theorem rdo_37 (x y : BitVec 32) (w : World) : Calls Try.prog 51 #[.int .i64 37, .int .u32 (x.toNat : Int), .int .u32 (y.toNat : Int)] w fun e w' => e = .returned (.tuple #[.int .u32 ((Wd.run 37 x y).toNat : Int), .int .i64 0]) ∧ Below w.heap.size w w' := by
  go_enter Try.func51, Try.ntmps51
  go_wp2_with fail
  go_ret2
  exact ⟨ret_at (Wd.mul_ x y), Below.refl _ _⟩

theorem rdo_38 (x y : BitVec 32) (w : World) : Calls Try.prog 51 #[.int .i64 38, .int .u32 (x.toNat : Int), .int .u32 (y.toNat : Int)] w fun e w' => e = .returned (.tuple #[.int .u32 ((Wd.run 38 x y).toNat : Int), .int .i64 0]) ∧ Below w.heap.size w w' := by
  go_enter Try.func51, Try.ntmps51
  go_wp2_with fail
  refine (rhigh_any 38 x y _ (by decide)).mono ?_
  rintro e w' ⟨rfl, rfl⟩
  go_wp2_with fail
  go_ret2
  exact ⟨rfl, Below.refl _ _⟩

theorem rdo_39 (x y : BitVec 32) (w : World) : Calls Try.prog 51 #[.int .i64 39, .int .u32 (x.toNat : Int), .int .u32 (y.toNat : Int)] w fun e w' => e = .returned (.tuple #[.int .u32 ((Wd.run 39 x y).toNat : Int), .int .i64 0]) ∧ Below w.heap.size w w' := by
  go_enter Try.func51, Try.ntmps51
  go_wp2_with fail
  refine (rhigh_any 39 x y _ (by decide)).mono ?_
  rintro e w' ⟨rfl, rfl⟩
  go_wp2_with fail
  go_ret2
  exact ⟨rfl, Below.refl _ _⟩

theorem rdo_40 (x y : BitVec 32) (w : World) : Calls Try.prog 51 #[.int .i64 40, .int .u32 (x.toNat : Int), .int .u32 (y.toNat : Int)] w fun e w' => e = .returned (.tuple #[.int .u32 ((Wd.run 40 x y).toNat : Int), .int .i64 0]) ∧ Below w.heap.size w w' := by
  go_enter Try.func51, Try.ntmps51
  go_wp2_with fail
  refine (rhigh_any 40 x y _ (by decide)).mono ?_
  rintro e w' ⟨rfl, rfl⟩
  go_wp2_with fail
  go_ret2
  exact ⟨rfl, Below.refl _ _⟩

theorem rdo_41 (x y : BitVec 32) (w : World) : Calls Try.prog 51 #[.int .i64 41, .int .u32 (x.toNat : Int), .int .u32 (y.toNat : Int)] w fun e w' => e = .returned (.tuple #[.int .u32 ((Wd.run 41 x y).toNat : Int), .int .i64 0]) ∧ Below w.heap.size w w' := by
  go_enter Try.func51, Try.ntmps51
  go_wp2_with fail
  refine (rdiv_any 41 x y _ (by decide)).mono ?_
  rintro e w' ⟨rfl, rfl⟩
  go_wp2_with fail
  go_ret2
  exact ⟨rfl, Below.refl _ _⟩

theorem rdo_42 (x y : BitVec 32) (w : World) : Calls Try.prog 51 #[.int .i64 42, .int .u32 (x.toNat : Int), .int .u32 (y.toNat : Int)] w fun e w' => e = .returned (.tuple #[.int .u32 ((Wd.run 42 x y).toNat : Int), .int .i64 0]) ∧ Below w.heap.size w w' := by
  go_enter Try.func51, Try.ntmps51
  go_wp2_with fail
  refine (rdiv_any 42 x y _ (by decide)).mono ?_
  rintro e w' ⟨rfl, rfl⟩
  go_wp2_with fail
  go_ret2
  exact ⟨rfl, Below.refl _ _⟩

theorem rdo_43 (x y : BitVec 32) (w : World) : Calls Try.prog 51 #[.int .i64 43, .int .u32 (x.toNat : Int), .int .u32 (y.toNat : Int)] w fun e w' => e = .returned (.tuple #[.int .u32 ((Wd.run 43 x y).toNat : Int), .int .i64 0]) ∧ Below w.heap.size w w' := by
  go_enter Try.func51, Try.ntmps51
  go_wp2_with fail
  refine (rdiv_any 43 x y _ (by decide)).mono ?_
  rintro e w' ⟨rfl, rfl⟩
  go_wp2_with fail
  go_ret2
  exact ⟨rfl, Below.refl _ _⟩

theorem rdo_44 (x y : BitVec 32) (w : World) : Calls Try.prog 51 #[.int .i64 44, .int .u32 (x.toNat : Int), .int .u32 (y.toNat : Int)] w fun e w' => e = .returned (.tuple #[.int .u32 ((Wd.run 44 x y).toNat : Int), .int .i64 0]) ∧ Below w.heap.size w w' := by
  go_enter Try.func51, Try.ntmps51
  go_wp2_with fail
  refine (rdiv_any 44 x y _ (by decide)).mono ?_
  rintro e w' ⟨rfl, rfl⟩
  go_wp2_with fail
  go_ret2
  exact ⟨rfl, Below.refl _ _⟩

theorem rdo_none (op : Int) (x y : BitVec 32) (w : World) (h : op < 27 ∨ 44 < op) : Calls Try.prog 51 #[.int .i64 op, .int .u32 (x.toNat : Int), .int .u32 (y.toNat : Int)] w fun e w' => e = .returned (.tuple #[.int .u32 0, .int .i64 1]) ∧ w' = w := by
  rcases h with h | h
  all_goals go_enter Try.func51, Try.ntmps51
  all_goals go_wp2
  all_goals go_ret2
  all_goals exact ⟨rfl, rfl⟩

theorem rdo_any (op : Int) (x y : BitVec 32) (w : World) : Calls Try.prog 51 #[.int .i64 op, .int .u32 (x.toNat : Int), .int .u32 (y.toNat : Int)] w fun e w' => e = .returned (.tuple #[.int .u32 ((Wd.run op x y).toNat : Int), .int .i64 (Wd.err op)]) ∧ Below w.heap.size w w' := by
  by_cases h : 27 ≤ op ∧ op ≤ 44
  · have : op = 27 ∨ op = 28 ∨ op = 29 ∨ op = 30 ∨ op = 31 ∨ op = 32 ∨ op = 33 ∨ op = 34 ∨ op = 35 ∨ op = 36 ∨ op = 37 ∨ op = 38 ∨ op = 39 ∨ op = 40 ∨ op = 41 ∨ op = 42 ∨ op = 43 ∨ op = 44 := by omega
    clear h
    rcases this with rfl | rfl | rfl | rfl | rfl | rfl | rfl | rfl | rfl | rfl | rfl | rfl | rfl | rfl | rfl | rfl | rfl | rfl
    · exact rdo_27 x y w
    · exact rdo_28 x y w
    · exact rdo_29 x y w
    · exact rdo_30 x y w
    · exact rdo_31 x y w
    · exact rdo_32 x y w
    · exact rdo_33 x y w
    · exact rdo_34 x y w
    · exact rdo_35 x y w
    · exact rdo_36 x y w
    · exact rdo_37 x y w
    · exact rdo_38 x y w
    · exact rdo_39 x y w
    · exact rdo_40 x y w
    · exact rdo_41 x y w
    · exact rdo_42 x y w
    · exact rdo_43 x y w
    · exact rdo_44 x y w
  · have e1 : Wd.err op = 1 := by unfold Wd.err Wd.known; rw [if_neg (by rw [decide_eq_true_eq]; exact h)]
    have e2 : Wd.run op x y = (BitVec.ofNat 32 0) := by
      unfold Wd.run
      repeat rw [if_neg (by omega)]
    rw [e1, e2]
    refine (rdo_none op x y w (by omega)).mono ?_
    rintro e w' ⟨rfl, rfl⟩
    exact ⟨rfl, Below.refl _ _⟩

end Go.Proofs.Ythlefedljgmmfab
