/-
  Contracts of the document's answer for layer 2 (forms, spans, plain kinds): each comes to the same plain function as the program's own.
-/
import Derived.Test.YtilphdfobflbiaaIL
namespace Go.Proofs.Ytilphdfobflbiaa
open Go.RowKit Ip

/-- The text of the forms' letters. -/
def formText : ByteArray := ⟨#[85, 85, 74, 73, 66, 66, 66, 66, 66, 66, 73, 73, 73, 73, 73, 83, 83, 83, 73, 73, 73, 73, 73, 73, 72, 72, 72, 82, 82, 82, 82, 82, 82, 82, 82, 82, 82, 82, 82, 82, 82, 82, 82, 82, 82, 69, 69]⟩
theorem formText_size : formText.size = 47 := rfl
theorem forms_any (w : World) : Calls Try.prog 74 #[] w fun e w' => e = .returned (.string formText) ∧ w' = w := by
  go_enter Try.func74, Try.ntmps74
  go_wp2
  go_ret
  exact ⟨rfl, rfl⟩
theorem formText_at (k : Nat) (h : k < 47) (w : World) : (Instr.index 9 (.string formText) (.int .i64 (k : Int))).run Try.prog w = .ok (.int .u8 (kf k : Int)) w := by
  revert k
  refine cases47 ?_ ?_ ?_ ?_ ?_ ?_ ?_ ?_ ?_ ?_ ?_ ?_ ?_ ?_ ?_ ?_ ?_ ?_ ?_ ?_ ?_ ?_ ?_ ?_ ?_ ?_ ?_ ?_ ?_ ?_ ?_ ?_ ?_ ?_ ?_ ?_ ?_ ?_ ?_ ?_ ?_ ?_ ?_ ?_ ?_ ?_ ?_
  all_goals kernel_rfl
theorem rform_any (op : Int) (w : World) : Calls Try.prog 41 #[.int .i64 op] w fun e w' => e = .returned (.int .u8 (frm op : Int)) ∧ w' = w := by
  have hsz := formText_size
  by_cases h0 : op < 0
  · go_enter Try.func41, Try.ntmps41
    go_wp2_with (go_at_call 74; refine (forms_any _).mono ?_; rintro e w1 ⟨rfl, rfl⟩)
    go_ret
    exact ⟨ret_int (by unfold frm; rw [if_neg (by omega)]; rfl), rfl⟩
  · by_cases h1 : 47 ≤ op
    · go_enter Try.func41, Try.ntmps41
      go_wp2_with (go_at_call 74; refine (forms_any _).mono ?_; rintro e w1 ⟨rfl, rfl⟩)
      go_ret
      exact ⟨ret_int (by unfold frm; rw [if_pos (by omega), kf_zero _ (by omega)]; rfl), rfl⟩
    · obtain ⟨k, rfl⟩ := Int.eq_ofNat_of_zero_le (by omega : 0 ≤ op)
      have hidx := formText_at k (by omega)
      go_enter Try.func41, Try.ntmps41
      go_wp2_with (go_at_call 74; refine (forms_any _).mono ?_; rintro e w1 ⟨rfl, rfl⟩)
      go_ret
      exact ⟨ret_int (by unfold frm; rw [if_pos (by omega), Int.toNat_natCast]), rfl⟩

theorem reg_any (r : Int) (b : Bool) (w : World) : Calls Try.prog 55 #[.int .i64 r, .bool b] w fun e w' => e = .returned (.bool (fit r b)) ∧ w' = w := by
  by_cases h0 : (r == 0) = true
  · have e : r = 0 := by simpa using h0
    have H : Hid (r = 0) := e
    clear e
    go_enter Try.func55, Try.ntmps55
    go_wp2
    go_ret
    exact ⟨ret_bool (by rw [H.out]; cases b <;> rfl), rfl⟩
  · have h0' : (r == 0) = false := by simpa using h0
    have e : r ≠ 0 := by simpa using h0
    have H : Hid (r ≠ 0) := e
    clear e h0
    cases b
    · go_enter Try.func55, Try.ntmps55
      go_wp2
      go_ret
      exact ⟨ret_bool (by unfold fit; rw [if_neg (by decide)]; exact (decide_eq_false H.out).symm), rfl⟩
    · by_cases h1 : 0 < r
      · by_cases h2 : r < 32
        · go_enter Try.func55, Try.ntmps55
          go_wp2
          go_ret
          exact ⟨ret_bool (by unfold fit; rw [if_pos rfl]; exact (decide_eq_true (by omega)).symm), rfl⟩
        · go_enter Try.func55, Try.ntmps55
          go_wp2
          go_ret
          exact ⟨ret_bool (by unfold fit; rw [if_pos rfl]; exact (decide_eq_false (by omega)).symm), rfl⟩
      · go_enter Try.func55, Try.ntmps55
        go_wp2
        go_ret
        exact ⟨ret_bool (by unfold fit; rw [if_pos rfl]; have := H.out; exact (decide_eq_false (by omega)).symm), rfl⟩

theorem rspan_any (f : Nat) (h : is8 f ∨ f = 0) (w : World) : Calls Try.prog 54 #[.int .u8 (f : Int)] w fun e w' => e = .returned (.tuple #[.int .i64 (lo f), .int .i64 (hi f), .int .i64 (st f)]) ∧ w' = w := by
  rcases h with h | rfl
  · rcases h with rfl | rfl | rfl | rfl | rfl | rfl | rfl | rfl
    all_goals
      go_enter Try.func54, Try.ntmps54
      go_wp2
      go_ret3
      exact ⟨rfl, rfl⟩
  · go_enter Try.func54, Try.ntmps54
    go_wp2
    go_ret3
    exact ⟨rfl, rfl⟩

/-- Does a byte stand in a text? -/
def inS (c : Int) (l : List UInt8) : Bool := l.any fun b => (b.toNat : Int) == c
theorem inS_snoc (c : Int) (s : ByteArray) (k : Nat) (h : k < s.size) : inS c (s.data.toList.take (k + 1)) = (inS c (s.data.toList.take k) || ((s[k].toNat : Int) == c)) := by
  have e : s.data.toList.take (k + 1) = s.data.toList.take k ++ [s[k]] := by
    rw [List.take_succ_eq_append_getElem (by simpa using h)]; rfl
  rw [e]; unfold inS; rw [List.any_append]; simp
theorem inS_some (c : Int) (s : ByteArray) (k : Nat) (h : k < s.size) (he : ((s[k].toNat : Int) == c) = true) : inS c s.data.toList = true := by
  unfold inS
  rw [List.any_eq_true]
  exact ⟨s[k], Array.getElem_mem_toList _, he⟩
theorem in_any (c : Nat) (s : ByteArray) (hs : s.size ≤ 100) (w : World) : Calls Try.prog 56 #[.int .u8 (c : Int), .string s] w fun e w' => e = .returned (.bool (inS c s.data.toList)) ∧ w' = w := by
  go_enter Try.func56, Try.ntmps56
  go_wp2
  go_loop [5] (fun i => ∃ k : Nat, k ≤ s.size ∧ i = .int .i64 k ∧ Hid (inS c (s.data.toList.take k) = false)) (fun i => s.size - (intOf i).toNat)
  case atStart => exact ⟨0, Nat.zero_le _, rfl, rfl⟩
  case round =>
    obtain ⟨k, hk, rfl, hno⟩ := hrel
    by_cases hlt : k < s.size
    · by_cases he : ((s[k].toNat : Int) == (c : Int)) = true
      · have H : Hid (inS c s.data.toList = true) := inS_some c s k hlt he
        go_wp2
        go_ret
        exact ⟨ret_bool H.out.symm, rfl⟩
      · have he' : ((s[k].toNat : Int) == (c : Int)) = false := by simpa using he
        have H : Hid (inS c (s.data.toList.take (k + 1)) = false) := by
          show _ = _
          rw [inS_snoc c s k hlt, hno.out, he']; rfl
        clear he
        go_wp2
        go_round
        case rel => exact ⟨k + 1, by omega, by go_num, H⟩
        case measure => simp [intOf]; omega
    · have e : inS c s.data.toList = false := by
        have := hno.out
        rw [List.take_of_length_le (by simp; omega)] at this; exact this
      have H : Hid (inS c s.data.toList = false) := e
      clear e
      go_wp2
      go_ret
      exact ⟨ret_bool H.out.symm, rfl⟩

def inB (c : Int) (s : ByteArray) : Bool := inS c s.data.toList
theorem inB_any (c : Nat) (s : ByteArray) (hs : s.size ≤ 100) (w : World) : Calls Try.prog 56 #[.int .u8 (c : Int), .string s] w fun e w' => e = .returned (.bool (inB c s)) ∧ w' = w := in_any c s hs w
def hSg (f : Nat) : Bool := decide (f = 74 ∨ f = 73 ∨ f = 83 ∨ f = 66)
theorem inB_Rd (f : Nat) (h : is8 f) : inB f ⟨#[85, 74, 73, 72, 82]⟩ = hRd f := by
  rcases h with rfl | rfl | rfl | rfl | rfl | rfl | rfl | rfl <;> rfl
theorem inB_Rs1 (f : Nat) (h : is8 f) : inB f ⟨#[73, 72, 66, 83, 82]⟩ = hRs1 f := by
  rcases h with rfl | rfl | rfl | rfl | rfl | rfl | rfl | rfl <;> rfl
theorem inB_Rs2 (f : Nat) (h : is8 f) : inB f ⟨#[66, 83, 82]⟩ = hRs2 f := by
  rcases h with rfl | rfl | rfl | rfl | rfl | rfl | rfl | rfl <;> rfl
theorem inB_Sg (f : Nat) (h : is8 f) : inB f ⟨#[74, 73, 83, 66]⟩ = hSg f := by
  rcases h with rfl | rfl | rfl | rfl | rfl | rfl | rfl | rfl <;> rfl
end Go.Proofs.Ytilphdfobflbiaa
