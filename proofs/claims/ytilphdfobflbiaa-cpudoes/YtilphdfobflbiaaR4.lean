/-
  Contracts of the document's quotients and of what it reckons bit by bit; then its Do, and the walk of WordDoes.
-/
import Derived.Test.YtilphdfobflbiaaR3
import Derived.Test.YtilphdfobflbiaaF
namespace Go.Proofs.Ytilphdfobflbiaa
open Go.RowKit

theorem eq0_of {y : BitVec 32} (h : ((y.toNat : Int) == 0) = false) : (1 : Int) ≤ (y.toNat : Int) := by
  have : (y.toNat : Int) ≠ 0 := by simpa using h
  omega

theorem w64 (n : Int) : wrap64 n % 4294967296 = n % 4294967296 := by unfold wrap64; omega
theorem w64s (n p : Int) : wrap64 (n - wrap64 p) % 4294967296 = (n - p) % 4294967296 := by unfold wrap64; omega
theorem w64_nat (x : BitVec 32) : wrap64 (x.toNat : Int) = (x.toNat : Int) := by
  have := x.isLt
  exact IntWalk.wrap64_in _ (by omega)
theorem modu_back (x y : BitVec 32) : (x.toNat : Int) - ((x / y).toNat : Int) * (y.toNat : Int) = (x.toNat : Int) % (y.toNat : Int) := by
  rw [← Wd.divu_, Int.emod_def, Int.mul_comm]

theorem rdiv_zero (op : Int) (x y : BitVec 32) (w : World) (h : op = 41 ∨ op = 42 ∨ op = 43 ∨ op = 44) (hz : ((y.toNat : Int) == 0) = true) : Calls Try.prog 62 #[.int .i64 op, .int .u32 (x.toNat : Int), .int .u32 (y.toNat : Int)] w fun e w' => e = .returned (.int .u32 ((Wd.run op x y).toNat : Int)) ∧ w' = w := by
  have e := Wd.eq0 y hz
  rcases h with rfl | rfl | rfl | rfl
  · go_enter Try.func62, Try.ntmps62
    go_wp2
    go_ret
    exact ⟨ret_int (by show _ = ((Wd.quot x y).toNat : Int); unfold Wd.quot; rw [if_pos e]; rfl), rfl⟩
  · go_enter Try.func62, Try.ntmps62
    go_wp2
    go_ret
    exact ⟨ret_int (by show _ = ((Wd.quotu x y).toNat : Int); unfold Wd.quotu; rw [if_pos e]; rfl), rfl⟩
  · go_enter Try.func62, Try.ntmps62
    go_wp2
    go_ret
    exact ⟨ret_int (by show _ = ((Wd.rest x y).toNat : Int); unfold Wd.rest; rw [if_pos e]), rfl⟩
  · go_enter Try.func62, Try.ntmps62
    go_wp2
    go_ret
    exact ⟨ret_int (by show _ = ((Wd.restu x y).toNat : Int); unfold Wd.restu; rw [if_pos e]), rfl⟩

theorem rdiv_any (op : Int) (x y : BitVec 32) (w : World) (h : op = 41 ∨ op = 42 ∨ op = 43 ∨ op = 44) : Calls Try.prog 62 #[.int .i64 op, .int .u32 (x.toNat : Int), .int .u32 (y.toNat : Int)] w fun e w' => e = .returned (.int .u32 ((Wd.run op x y).toNat : Int)) ∧ w' = w := by
  by_cases hz : ((y.toNat : Int) == 0) = true
  · exact rdiv_zero op x y w h hz
  · have hz' : ((y.toNat : Int) == 0) = false := by simpa using hz
    have e := Wd.ne0 y hz'
    have hp := eq0_of hz'
    have hn := Wd.toInt_ne y e
    have hd := Wd.tdiv_in x y
    have x1 := Wd.toInt_lo x
    have x2 := Wd.toInt_hi x
    clear hz
    have hx := Wd.lt x
    have hy := Wd.lt y
    rcases h with rfl | rfl | rfl | rfl
    · go_enter Try.func62, Try.ntmps62
      go_wp2_with (go_at_call 60; refine (num_any _ _).mono ?_; rintro e w' ⟨rfl, rfl⟩)
      go_ret
      exact ⟨ret_int (by show _ = ((Wd.quot x y).toNat : Int); unfold Wd.quot; rw [if_neg e]; first | exact Wd.cut_ _ | (rw [IntWalk.wrap64_in _ (by omega)]; exact Wd.cut_ _)), rfl⟩
    · go_enter Try.func62, Try.ntmps62
      go_wp2
      go_ret
      exact ⟨ret_int (by show _ = ((Wd.quotu x y).toNat : Int); unfold Wd.quotu; rw [if_neg e, w64, Wd.divu_]; exact Int.emod_eq_of_lt (Wd.ge _) (Wd.lt _)), rfl⟩
    · go_enter Try.func62, Try.ntmps62
      go_wp2_with (go_at_call 60; refine (num_any _ _).mono ?_; rintro e w' ⟨rfl, rfl⟩)
      go_ret
      exact ⟨ret_int (by show _ = ((Wd.rest x y).toNat : Int); unfold Wd.rest; rw [if_neg e, w64s, Wd.tmod_sub]; exact Wd.cut_ _), rfl⟩
    · go_enter Try.func62, Try.ntmps62
      go_wp2
      go_ret
      exact ⟨ret_int (by show _ = ((Wd.restu x y).toNat : Int); unfold Wd.restu; rw [if_neg e, Wd.divu_, w64_nat, w64s, modu_back, Wd.modu_]; exact Int.emod_eq_of_lt (Wd.ge _) (Wd.lt _)), rfl⟩

theorem row_step (op : Int) (x y : BitVec 32) (k : Nat) (hk : k < 32) {wr : World} {B : Nat} (h : Row wr B (fun j => decide (j < k) && (Wd.run op x y).getLsbD j)) (r : Bool) (hr : (Wd.run op x y).getLsbD k = r) :
    Row (wr.setCell ⟨B, k, none⟩ (.int .u32 ((Wd.one r).toNat : Int))) B (fun j => decide (j < k + 1) && (Wd.run op x y).getLsbD j) := by
  refine (h.set k hk r).congr fun j _ => ?_
  by_cases e : j = k
  · subst e; rw [if_pos rfl, decide_eq_true (by omega), hr]; rfl
  · have e2 : (j < k + 1) = (j < k) := propext (by omega)
    simp [e, e2]

theorem rbits_any (op : Int) (x y : BitVec 32) (w : World) (h : op = 36 ∨ op = 35 ∨ op = 32) : Calls Try.prog 57 #[.int .i64 op, .int .u32 (x.toNat : Int), .int .u32 (y.toNat : Int)] w fun e w' => e = .returned (.int .u32 ((Wd.run op x y).toNat : Int)) ∧ Below w.heap.size w w' := by
  have hmk := made
  have o1 : ((Wd.one true).toNat : Int) = 1 := rfl
  have o0 : ((Wd.one false).toNat : Int) = 0 := rfl
  have HX : Hid (op = 36 ∨ op = 35 ∨ op = 32) := h
  clear h
  go_enter Try.func57, Try.ntmps57
  go_wp2_with fail
  clear hmk
  go_loopw [8, 9, 10] (fun i _ _ wr => ∃ k : Nat, i = .int .i64 (k : Int) ∧ k ≤ 32 ∧ Row wr w.heap.size (fun j => decide (j < k) && (Wd.run op x y).getLsbD j) ∧ Below w.heap.size w wr) (fun i _ _ _ => (32 - intOf i).toNat)
  case atStart => exact ⟨0, rfl, by omega, (Row.made w).congr (by simp), (Below.refl _ _).alloc (Nat.le_refl _) _⟩
  case round =>
    obtain ⟨k, rfl, hk, hrow, hbel⟩ := hrel
    by_cases hlt : k < 32
    · have hcell := hrow.cell k (by omega)
      have hfree := hrow.free k
      have HR : Hid (Row wr w.heap.size (fun j => decide (j < k) && (Wd.run op x y).getLsbD j)) := hrow
      clear hrow
      obtain ⟨p, hp⟩ : ∃ p, bitAt x (k : Int) = p := ⟨_, rfl⟩
      obtain ⟨q, hq⟩ : ∃ q, bitAt y (k : Int) = q := ⟨_, rfl⟩
      have Hp : Hid (x.getLsbD k = p) := by rw [← bitAt_nat]; exact hp
      have Hq : Hid (y.getLsbD k = q) := by rw [← bitAt_nat]; exact hq
      rcases HX.out with rfl | rfl | rfl
      · have Hr : Hid ((Wd.run 36 x y).getLsbD k = (p && q)) := by
          show (x &&& y).getLsbD k = (p && q)
          rw [BitVec.getLsbD_and, Hp.out, Hq.out]
        cases p <;> cases q
        all_goals go_wp2_with (go_at_call 42; refine (bit_any _ _ _).mono ?_; rintro e w' ⟨rfl, rfl⟩)
        all_goals go_roundw
        all_goals first | (case rel => exact ⟨k + 1, by go_num, by omega, row_step 36 x y k hlt HR.out _ Hr.out, hbel.setCell (Nat.le_refl _) _⟩) | skip
        all_goals (simp [intOf]; omega)
      · have Hr : Hid ((Wd.run 35 x y).getLsbD k = (p || q)) := by
          show (x ||| y).getLsbD k = (p || q)
          rw [BitVec.getLsbD_or, Hp.out, Hq.out]
        cases p <;> cases q
        all_goals go_wp2_with (go_at_call 42; refine (bit_any _ _ _).mono ?_; rintro e w' ⟨rfl, rfl⟩)
        all_goals go_roundw
        all_goals first | (case rel => exact ⟨k + 1, by go_num, by omega, row_step 35 x y k hlt HR.out _ Hr.out, hbel.setCell (Nat.le_refl _) _⟩) | skip
        all_goals (simp [intOf]; omega)
      · have Hr : Hid ((Wd.run 32 x y).getLsbD k = (p ^^ q)) := by
          show (x ^^^ y).getLsbD k = (p ^^ q)
          rw [BitVec.getLsbD_xor, Hp.out, Hq.out]
        cases p <;> cases q
        all_goals go_wp2_with (go_at_call 42; refine (bit_any _ _ _).mono ?_; rintro e w' ⟨rfl, rfl⟩)
        all_goals go_roundw
        all_goals first | (case rel => exact ⟨k + 1, by go_num, by omega, row_step 32 x y k hlt HR.out _ Hr.out, hbel.setCell (Nat.le_refl _) _⟩) | skip
        all_goals (simp [intOf]; omega)
    · have hrow' : Row wr w.heap.size (fun j => (Wd.run op x y).getLsbD j) := hrow.congr (by
        intro j hj; rw [decide_eq_true (by omega)]; simp)
      clear hrow
      go_wp2_with (go_at_call 84; refine (of_any (Wd.run op x y) _ _ hrow').mono ?_; rintro e w' ⟨rfl, rfl⟩)
      go_ret
      exact ⟨rfl, hbel⟩
end Go.Proofs.Ytilphdfobflbiaa
