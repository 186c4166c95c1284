/-
  The walk of InstPlain: it answers true of any kind.
-/
import Derived.Test.YtoiheamdnlaahabIM
namespace Go.Proofs.Ytoiheamdnlaahab
open Go.RowKit Ip

theorem plain_to (op : Int) (v : Int) (b : Bool) (hv : plainV op = v) (hb : plainB op = b) (w : World) : Calls Try.prog 9 #[.int .i64 op] w fun e w' => e = .returned (.tuple #[.int .i64 v, .bool b]) ∧ w' = w := by
  subst hv hb; exact plain_any op w
theorem plain_kinds (op : Int) (h : 18 ≤ op ∧ op ≤ 26) : plainB (plainV op) = false ∧ frm (plainV op) = 82 ∧ (frm op = 73 ∨ frm op = 72) := by
  have e : op = 18 ∨ op = 19 ∨ op = 20 ∨ op = 21 ∨ op = 22 ∨ op = 23 ∨ op = 24 ∨ op = 25 ∨ op = 26 := by omega
  rcases e with rfl | rfl | rfl | rfl | rfl | rfl | rfl | rfl | rfl <;> decide

theorem instPlain_walk (op : Int) (w : World) : Calls Try.prog 4 #[.int .i64 op] w fun e w' => e = .returned (.bool true) ∧ Below w.heap.size w w' := by
  by_cases h : 18 ≤ op ∧ op ≤ 26
  · obtain ⟨t, ht⟩ : ∃ t, plainV op = t := ⟨_, rfl⟩
    obtain ⟨p1, p2, p3⟩ := plain_kinds op h
    rw [ht] at p1 p2
    have HB : Hid (plainB op = true) := decide_eq_true h
    have HV : Hid (plainV op = t) := ht
    obtain ⟨v2, hv2⟩ : ∃ v, plainV t = v := ⟨_, rfl⟩
    have HV2 : Hid (plainV t = v2) := hv2
    have HB2 : Hid (plainB t = false) := p1
    have HF2 : Hid (((frm t : Nat) : Int) = 82) := by rw [p2]; rfl
    have HF : Hid (((frm op : Nat) : Int) = 73) ∨ Hid (((frm op : Nat) : Int) = 72) := by
      rcases p3 with e | e
      · exact .inl (by rw [e]; rfl)
      · exact .inr (by rw [e]; rfl)
    clear h ht p1 p2 p3 hv2
    rcases HF with HF | HF
    all_goals
      go_enter Try.func4, Try.ntmps4
      go_wp2_with fail
      refine (plain_to op t true HV.out HB.out _).mono ?_
      rintro e w1 ⟨rfl, rfl⟩
      go_wp2_with fail
      refine (plain_to t v2 false HV2.out HB2.out _).mono ?_
      rintro e w1 ⟨rfl, rfl⟩
      go_wp2_with fail
      refine (form_lit op _ HF.out _).mono ?_
      rintro e w2 ⟨rfl, b2⟩
      go_wp2_with fail
      refine (form_lit t _ HF2.out _).mono ?_
      rintro e w3 ⟨rfl, b3⟩
      go_wp2_with fail
      refine (fixed_any _).mono ?_
      rintro e w4 ⟨rfl, b4⟩
      go_wp2_with fail
      go_ret
      exact ⟨rfl, (b2.trans (b3.mono b2.size)).trans (b4.mono (Nat.le_trans b2.size b3.size))⟩
  · have HV : Hid (plainV op = 0) := by unfold plainV; show _ = _; repeat rw [if_neg (by omega)]
    have HB : Hid (plainB op = false) := decide_eq_false h
    clear h
    go_enter Try.func4, Try.ntmps4
    go_wp2_with fail
    refine (plain_to op 0 false HV.out HB.out _).mono ?_
    rintro e w1 ⟨rfl, rfl⟩
    go_wp2_with fail
    refine (fixed_any _).mono ?_
    rintro e w4 ⟨rfl, b4⟩
    go_wp2_with fail
    go_ret
    exact ⟨rfl, b4⟩
end Go.Proofs.Ytoiheamdnlaahab
