/-
  Contract of package inst's Decode: the instruction of a word, by its kind.
-/
import Derived.Test.YtilphdfobflbiaaIG
namespace Go.Proofs.Ytilphdfobflbiaa
open Go.RowKit Ip

theorem bcell {W w1 : World} (hb : Below W.heap.size W w1) : (∀ b o, b < W.heap.size → w1.cell? ⟨b, o, none⟩ = W.cell? ⟨b, o, none⟩) ∧ (∀ b o, b < W.heap.size → w1.frozen? ⟨b, o, none⟩ = W.frozen? ⟨b, o, none⟩) :=
  ⟨fun b o h => hb.cell (p := ⟨b, o, none⟩) h, fun b o h => hb.frozen (p := ⟨b, o, none⟩) h⟩

theorem form_at (k : Nat) (F : Nat) (hF : F = kf k) (w : World) : Calls Try.prog 45 #[.int .i64 (k : Int)] w fun e w' => e = .returned (.int .u8 (F : Int)) ∧ Below w.heap.size w w' := by
  have e : frm (k : Int) = F := by unfold frm; rw [if_pos (by omega), Int.toNat_natCast, hF]
  rw [← e]; exact form_any k w
theorem has_at (f : Nat) (h : is8 f) (b1 b2 b3 : Bool) (h1 : b1 = hRd f) (h2 : b2 = hRs1 f) (h3 : b3 = hRs2 f) (w : World) : Calls Try.prog 46 #[.int .u8 (f : Int)] w fun e w' => e = .returned (.agg #[.bool b1, .bool b2, .bool b3]) ∧ Below w.heap.size w w' := by
  subst h1 h2 h3; exact has_any f h w
theorem find_at (x : BitVec 32) (r : Nat) (hr : r < 47) (hno : ∀ j, j < r → asks x j = false) (hyes : asks x r = true) (w : World) : Calls Try.prog 68 #[.int .u32 (x.toNat : Int)] w fun e w' => e = .returned (.tuple #[.int .i64 (r : Int), .bool true]) ∧ Below w.heap.size w w' := by
  have e1 : fV r = (r : Int) := by unfold fV; rw [if_pos hr]
  have e2 : fB r = true := by unfold fB; rw [decide_eq_true hr]
  rw [← e1, ← e2]; exact find_any x r (by omega) hno (fun _ => hyes) w
theorem find_none (x : BitVec 32) (hno : ∀ j, j < 47 → asks x j = false) (w : World) : Calls Try.prog 68 #[.int .u32 (x.toNat : Int)] w fun e w' => e = .returned (.tuple #[.int .i64 0, .bool false]) ∧ Below w.heap.size w w' :=
  find_any x 47 (by omega) hno (fun h => absurd h (by omega)) w

theorem decode_no (x : BitVec 32) (hno : ∀ j, j < 47 → asks x j = false) (w : World) : Calls Try.prog 35 #[.int .u32 (x.toNat : Int)] w fun e w' => e = .returned (.tuple #[.agg #[.int .i64 0, .int .i64 0, .int .i64 0, .int .i64 0, .int .i64 0], .int .i64 20]) ∧ Below w.heap.size w w' := by
  have HN : Hid (∀ j, j < 47 → asks x j = false) := hno
  clear hno
  go_enter Try.func35, Try.ntmps35
  go_wp2_with fail
  refine (find_none x HN.out _).mono ?_
  rintro e w1 ⟨rfl, hb⟩
  obtain ⟨hc, hf⟩ := bcell hb
  have hz : w.heap.size < w1.heap.size := by have := hb.size; simp at this; omega
  have hB : Below w.heap.size w w1 := ((Below.refl _ _).alloc (Nat.le_refl _) _).trans (hb.mono (by simp))
  go_wp2
  exact bodyPost_ret (v := .tuple #[.agg #[.int .i64 0, .int .i64 0, .int .i64 0, .int .i64 0, .int .i64 0], .int .i64 20]) (by simp [results, Try.results35, go_sem, hc]) rfl ⟨rfl, ((((hB.setCell (Nat.le_refl _) _).setCell (Nat.le_refl _) _).setCell (Nat.le_refl _) _).setCell (Nat.le_refl _) _).setCell (Nat.le_refl _) _⟩

set_option maxHeartbeats 4000000 in
theorem decode_core (x : BitVec 32) (r : Nat) (hr : r < 47) (hno : ∀ j, j < r → asks x j = false) (hyes : asks x r = true) (F : Nat) (hF : F = kf r) (b1 b2 b3 : Bool) (h1 : b1 = hRd F) (h2 : b2 = hRs1 F) (h3 : b3 = hRs2 F) (w : World) :
    Calls Try.prog 35 #[.int .u32 (x.toNat : Int)] w fun e w' => e = .returned (.tuple #[.agg #[.int .i64 (r : Int), .int .i64 (regIf b1 x 7), .int .i64 (regIf b2 x 15), .int .i64 (regIf b3 x 20), .int .i64 (number x F)], .int .i64 0]) ∧ Below w.heap.size w w' := by
  have HN : Hid (∀ j, j < r → asks x j = false) := hno
  have HY : Hid (asks x r = true) := hyes
  have HF : Hid (F = kf r) := hF
  have H1 : Hid (b1 = hRd F) := h1
  have H2 : Hid (b2 = hRs1 F) := h2
  have H3 : Hid (b3 = hRs2 F) := h3
  have h8 : is8 F := hF ▸ is8_kf r hr
  have H8 : Hid (is8 F) := h8
  clear hno hyes hF h1 h2 h3 h8
  cases b1 <;> cases b2 <;> cases b3
  all_goals
    go_enter Try.func35, Try.ntmps35
    go_wp2_with fail
    refine (find_at x r hr HN.out HY.out _).mono ?_
    rintro e w1 ⟨rfl, hb1⟩
    obtain ⟨hc1, hf1⟩ := bcell hb1
    have hz1 : w.heap.size < w1.heap.size := by have := hb1.size; simp at this; omega
    go_wp2_with fail
    refine (form_at r F HF.out _).mono ?_
    rintro e w2 ⟨rfl, hb2⟩
    obtain ⟨hc2, hf2⟩ := bcell hb2
    have hz2 : w.heap.size < w2.heap.size := Nat.lt_of_lt_of_le hz1 hb2.size
    go_wp2_with fail
    refine (has_at F H8.out _ _ _ H1.out H2.out H3.out _).mono ?_
    rintro e w3 ⟨rfl, hb3⟩
    obtain ⟨hc3, hf3⟩ := bcell hb3
    have hz3 : w.heap.size < w3.heap.size := Nat.lt_of_lt_of_le hz2 hb3.size
    go_wp2_with fail
    refine (number_any x F H8.out _).mono ?_
    rintro e w4 ⟨rfl, hb4⟩
    obtain ⟨hc4, hf4⟩ := bcell hb4
    have hz4 : w3.heap.size < w4.heap.size := by have := hb4.size; simp at this; omega
    have hz5 : w.heap.size < w4.heap.size := Nat.lt_trans hz3 hz4
    go_wp2_with (go_at_call 70; refine (field_any _ _ _ _).mono ?_; rintro e w5 ⟨rfl, kk, rfl⟩)
    have hB5 := (((hb1.trans (hb2.mono hb1.size)).trans (hb3.mono (Nat.le_trans hb1.size hb2.size))).alloc (Nat.le_trans hb1.size (Nat.le_trans hb2.size hb3.size)) _).trans (hb4.mono (Nat.le_trans (Nat.le_trans hb1.size (Nat.le_trans hb2.size hb3.size)) (by rw [World.size_alloc]; exact Nat.le_succ _)))
    have hB4 : Below w.heap.size w w4 := ((Below.refl _ _).alloc (Nat.le_refl _) _).trans (hB5.mono (by simp))
    have q0 : w4.cell? ⟨w.heap.size, 0, none⟩ = some (.int .i64 0) := by rw [hB5.cell (p := ⟨w.heap.size, 0, none⟩) (by simp), World.cell?_alloc_at _ _ _ _ rfl]; rfl
    have q1 : w4.cell? ⟨w.heap.size, 1, none⟩ = some (.int .i64 0) := by rw [hB5.cell (p := ⟨w.heap.size, 1, none⟩) (by simp), World.cell?_alloc_at _ _ _ _ rfl]; rfl
    have q2 : w4.cell? ⟨w.heap.size, 2, none⟩ = some (.int .i64 0) := by rw [hB5.cell (p := ⟨w.heap.size, 2, none⟩) (by simp), World.cell?_alloc_at _ _ _ _ rfl]; rfl
    have q3 : w4.cell? ⟨w.heap.size, 3, none⟩ = some (.int .i64 0) := by rw [hB5.cell (p := ⟨w.heap.size, 3, none⟩) (by simp), World.cell?_alloc_at _ _ _ _ rfl]; rfl
    have q4 : w4.cell? ⟨w.heap.size, 4, none⟩ = some (.int .i64 0) := by rw [hB5.cell (p := ⟨w.heap.size, 4, none⟩) (by simp), World.cell?_alloc_at _ _ _ _ rfl]; rfl
    refine bodyPost_ret (by simp [results, Try.results35, go_sem, regIf, q0, q1, q2, q3, q4, hz5]) rfl ⟨rfl, ?_⟩
  · exact (((((hB4.setCell (Nat.le_refl _) _).setCell (Nat.le_refl _) _).setCell (Nat.le_refl _) _).setCell (Nat.le_refl _) _).setCell (Nat.le_refl _) _).alloc (by simp; exact Nat.le_of_lt hz5) _
  · exact (((((((below_drewN (hB4.alloc (Nat.le_of_lt hz5) _) _).setCell (Nat.le_of_lt hz5) _).setCell (Nat.le_refl _) _).setCell (Nat.le_refl _) _).setCell (Nat.le_refl _) _).setCell (Nat.le_refl _) _).setCell (Nat.le_refl _) _)
  · exact (((((((below_drewN (hB4.alloc (Nat.le_of_lt hz5) _) _).setCell (Nat.le_of_lt hz5) _).setCell (Nat.le_refl _) _).setCell (Nat.le_refl _) _).setCell (Nat.le_refl _) _).setCell (Nat.le_refl _) _).setCell (Nat.le_refl _) _)
  · exact (((((((below_drewN ((below_drewN (hB4.alloc (Nat.le_of_lt hz5) _) _).setCell (Nat.le_of_lt hz5) _) _).setCell (Nat.le_of_lt hz5) _).setCell (Nat.le_refl _) _).setCell (Nat.le_refl _) _).setCell (Nat.le_refl _) _).setCell (Nat.le_refl _) _).setCell (Nat.le_refl _) _)
  · exact (((((((below_drewN (hB4.alloc (Nat.le_of_lt hz5) _) _).setCell (Nat.le_of_lt hz5) _).setCell (Nat.le_refl _) _).setCell (Nat.le_refl _) _).setCell (Nat.le_refl _) _).setCell (Nat.le_refl _) _).setCell (Nat.le_refl _) _)
  · exact (((((((below_drewN ((below_drewN (hB4.alloc (Nat.le_of_lt hz5) _) _).setCell (Nat.le_of_lt hz5) _) _).setCell (Nat.le_of_lt hz5) _).setCell (Nat.le_refl _) _).setCell (Nat.le_refl _) _).setCell (Nat.le_refl _) _).setCell (Nat.le_refl _) _).setCell (Nat.le_refl _) _)
  · exact (((((((below_drewN ((below_drewN (hB4.alloc (Nat.le_of_lt hz5) _) _).setCell (Nat.le_of_lt hz5) _) _).setCell (Nat.le_of_lt hz5) _).setCell (Nat.le_refl _) _).setCell (Nat.le_refl _) _).setCell (Nat.le_refl _) _).setCell (Nat.le_refl _) _).setCell (Nat.le_refl _) _)
  · exact (((((((below_drewN ((below_drewN ((below_drewN (hB4.alloc (Nat.le_of_lt hz5) _) _).setCell (Nat.le_of_lt hz5) _) _).setCell (Nat.le_of_lt hz5) _) _).setCell (Nat.le_of_lt hz5) _).setCell (Nat.le_refl _) _).setCell (Nat.le_refl _) _).setCell (Nat.le_refl _) _).setCell (Nat.le_refl _) _).setCell (Nat.le_refl _) _)

theorem decode_yes (x : BitVec 32) (r : Nat) (hr : r < 47) (hno : ∀ j, j < r → asks x j = false) (hyes : asks x r = true) (w : World) :
    Calls Try.prog 35 #[.int .u32 (x.toNat : Int)] w fun e w' => e = .returned (.tuple #[.agg #[.int .i64 (r : Int), .int .i64 (regIf (hRd (kf r)) x 7), .int .i64 (regIf (hRs1 (kf r)) x 15), .int .i64 (regIf (hRs2 (kf r)) x 20), .int .i64 (number x (kf r))], .int .i64 0]) ∧ Below w.heap.size w w' :=
  decode_core x r hr hno hyes _ rfl _ _ _ rfl rfl rfl w
end Go.Proofs.Ytilphdfobflbiaa
