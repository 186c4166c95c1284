/-
  The walk of InstKinds: it answers true of any word.
-/
import Derived.Test.YtoiheamdnlaahaaIM
namespace Go.Proofs.Ytoiheamdnlaahaa
open Go.RowKit Ip

theorem decode_at (x : BitVec 32) (k : Nat) (hk : k < 47) (h : asked x k = true) (F : Nat) (a b c n : Int) (hF : F = kf k) (ha : a = regIf (hRd F) x 7) (hb : b = regIf (hRs1 F) x 15) (hc : c = regIf (hRs2 F) x 20) (hn : n = number x F) (w : World) :
    Calls Try.prog 9 #[.int .u32 (x.toNat : Int)] w fun e w' => e = .returned (.tuple #[.agg #[.int .i64 (k : Int), .int .i64 a, .int .i64 b, .int .i64 c, .int .i64 n], .int .i64 0]) ∧ Below w.heap.size w w' := by
  subst ha hb hc hn hF; exact decode_kind x k hk h w
theorem asked_low (x : BitVec 32) (k : Nat) (hk : k < 47) (h : asked x k = true) : (bits .and .u32 (x.toNat : Int) 3 == 3) = true := by
  have e := asksF_op h
  rw [field_nat x 0 7 0 7 rfl rfl (by omega) (by omega)] at e
  have m := (kind_facts k hk).2.2.2.2.2.2.2
  rw [show (3 : Int) = (((BitVec.ofNat 32 3).toNat : Nat) : Int) from rfl, Wd.and_, beq_iff_eq, Int.natCast_inj, BitVec.toNat_and]
  have : x.toNat &&& (BitVec.ofNat 32 3).toNat = x.toNat % 2 ^ 2 := Nat.and_two_pow_sub_one_eq_mod x.toNat 2
  rw [this]
  show _ = 3
  omega

set_option maxHeartbeats 2000000 in
theorem instKinds_walk (x : BitVec 32) (w : World) : Calls Try.prog 7 #[.int .u32 (x.toNat : Int)] w fun e w' => e = .returned (.bool true) ∧ Below w.heap.size w w' := by
  rcases kind_or x with ⟨k, hk, hx⟩ | hx
  · have t3 := asked_low x k hk hx
    obtain ⟨F, a, b, c, n, hF, ha, hb, hc, hn⟩ : ∃ (F : Nat) (a b c n : Int), F = kf k ∧ a = regIf (hRd F) x 7 ∧ b = regIf (hRs1 F) x 15 ∧ c = regIf (hRs2 F) x 20 ∧ n = number x F := ⟨_, _, _, _, _, rfl, rfl, rfl, rfl, rfl⟩
    have h8 : is8 F := hF ▸ is8_kf k hk
    have hsp : inSpan (lo F) (hi F) (st F) n = true := by
      have := (again k hk x hx).1
      rw [right_nat k hk, Bool.and_eq_true] at this
      rw [hn, hF]; exact this.2
    have HX : Hid (asked x k = true) := hx
    have HF : Hid (F = kf k) := hF
    have HA : Hid (a = regIf (hRd F) x 7) := ha
    have HB : Hid (b = regIf (hRs1 F) x 15) := hb
    have HC : Hid (c = regIf (hRs2 F) x 20) := hc
    have HN : Hid (n = number x F) := hn
    have za : hRd F = false → a = 0 := fun h => by rw [ha, h]; rfl
    have zc : hRs2 F = false → c = 0 := fun h => by rw [hc, h]; rfl
    obtain ⟨n0, n1, n2⟩ := span_of hsp
    clear hx hF ha hb hc hn hsp n2
    rcases h8 with rfl | rfl | rfl | rfl | rfl | rfl | rfl | rfl
    all_goals
      first | (have qa := za (by decide)) | skip
      first | (have qc := zc (by decide)) | skip
      clear za zc
      have m0 : (-1048576 : Int) ≤ n := Int.le_trans (by decide) n0
      have m1 : n ≤ 1048575 := Int.le_trans n1 (by decide)
      first | (have k0 : (-4096 : Int) ≤ n := Int.le_trans (by decide) n0) | skip
      first | (have k1 : n < 4096 := Int.lt_of_le_of_lt n1 (by decide)) | skip
      first | (have j0 : (n == 0) = true := by have a1 : (0 : Int) ≤ n := Int.le_trans (by decide) n0; have a2 : n ≤ 0 := Int.le_trans n1 (by decide); rw [beq_iff_eq]; omega) | skip
      clear n0 n1
      go_enter Try.func7, Try.ntmps7
      go_wp2_with fail
      refine (decode_at x k hk HX.out _ _ _ _ _ HF.out HA.out HB.out HC.out HN.out _).mono ?_
      rintro e w1 ⟨rfl, h1⟩
      go_wp2_with fail
      refine (form_at k _ HF.out _).mono ?_
      rintro e w2 ⟨rfl, h2⟩
      obtain ⟨c2, f2⟩ := bcell h2
      go_wp2_with fail
      refine (fixed_any _).mono ?_
      rintro e w3 ⟨rfl, h3⟩
      go_wp2_with fail
      go_ret
      exact ⟨rfl, ((h1.alloc h1.size _).trans (h2.mono (by simp; have := h1.size; omega))).trans (h3.mono (by have := h1.size; have := h2.size; simp at this; omega))⟩
  · have HX : Hid (∀ k, k < 47 → asked x k = false) := hx
    clear hx
    go_enter Try.func7, Try.ntmps7
    go_wp2_with fail
    refine (decode_none x HX.out _).mono ?_
    rintro e w1 ⟨rfl, h1⟩
    go_wp2_with fail
    refine (fixed_any _).mono ?_
    rintro e w3 ⟨rfl, h3⟩
    go_wp2_with fail
    go_ret
    exact ⟨rfl, (h1.alloc h1.size _).trans (h3.mono (by simp; have := h1.size; omega))⟩
end Go.Proofs.Ytoiheamdnlaahaa
