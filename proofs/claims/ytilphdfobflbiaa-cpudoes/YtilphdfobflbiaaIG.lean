/-
  Contract of package inst's find: the kind of a word's instruction.
-/
import Derived.Test.YtilphdfobflbiaaIF
namespace Go.Proofs.Ytilphdfobflbiaa
open Go.RowKit Ip

/-- What the program asks of a word, for a kind. -/
def asks (x : BitVec 32) (k : Nat) : Bool := ((ko k : Int) == ((Wd.field x 0 7).toNat : Int)) && told (kf k) (ko k) (k3 k) (k7 k) x ((Wd.field x 12 3).toNat : Int) ((Wd.field x 25 7).toNat : Int)

def fV (r : Nat) : Int := if r < 47 then (r : Int) else 0
def fB (r : Nat) : Bool := decide (r < 47)
theorem ret_ib {k : IntKind} {a b : Int} {c d : Bool} (h : a = b) (h2 : c = d) : Ending.returned (.tuple #[.int k a, .bool c]) = .returned (.tuple #[.int k b, .bool d]) := by rw [h, h2]
set_option maxRecDepth 4000 in
theorem find_any (x : BitVec 32) (r : Nat) (hr : r ≤ 47) (hno : ∀ j, j < r → asks x j = false) (hyes : r < 47 → asks x r = true) (w : World) : Calls Try.prog 68 #[.int .u32 (x.toNat : Int)] w fun e w' => e = .returned (.tuple #[.int .i64 (fV r), .bool (fB r)]) ∧ Below w.heap.size w w' := by
  have HN : Hid (∀ j, j < r → asks x j = false) := hno
  have HY : Hid (r < 47 → asks x r = true) := hyes
  clear hno hyes
  have b1 : ((Wd.field x 0 7).toNat : Int) < 128 := field_lt x 0 7 (by decide)
  have b2 : ((Wd.field x 12 3).toNat : Int) < 8 := field_lt x 12 3 (by decide)
  have b3 : ((Wd.field x 25 7).toNat : Int) < 128 := field_lt x 25 7 (by decide)
  go_enter Try.func68, Try.ntmps68
  go_wp2_with fail
  refine (field_any x 0 7 _).mono ?_
  rintro e w1 ⟨rfl, k, rfl⟩
  go_wp2_with fail
  refine (field_any x 12 3 _).mono ?_
  rintro e w1 ⟨rfl, k, rfl⟩
  go_wp2_with fail
  refine (field_any x 25 7 _).mono ?_
  rintro e w1 ⟨rfl, k, rfl⟩
  go_wp2_with fail
  refine (kinds_any _).mono ?_
  rintro e w1 ⟨rfl, hb⟩
  go_wp2_with fail
  go_loopw [19] (fun i wr => ∃ k : Nat, k ≤ r ∧ i = .int .i64 (k : Int) ∧ Below w.heap.size w wr) (fun i _ => (47 - intOf i).toNat)
  case atStart => exact ⟨0, by omega, rfl, (below_drewN (Below.refl _ _) _).trans hb⟩
  case round =>
    obtain ⟨k, hk, rfl, hbr⟩ := hrel
    by_cases hlt : k < 47
    · obtain ⟨F, O, A, B, hF, hO, hA, hB, hidx⟩ : ∃ F O A B : Nat, Hid (F = kf k) ∧ Hid (O = ko k) ∧ Hid (A = k3 k) ∧ Hid (B = k7 k) ∧ ∀ w : World, (Instr.index 120 (.agg Ks) (.int .i64 (k : Int))).run Try.prog w = .ok (.agg #[.int .u8 (F : Int), .int .u8 (O : Int), .int .u8 (A : Int), .int .u8 (B : Int)]) w := ⟨_, _, _, _, rfl, rfl, rfl, rfl, index_at k hlt⟩
      have h8 : is8 F := hF.out ▸ is8_kf k hlt
      have lO : O < 256 := hO.out ▸ ko_lt k
      have lA : A < 256 := hA.out ▸ k3_lt k
      have lB : B < 256 := hB.out ▸ k7_lt k
      have hask : Hid (asks x k = (((O : Int) == ((Wd.field x 0 7).toNat : Int)) && told F O A B x ((Wd.field x 12 3).toNat : Int) ((Wd.field x 25 7).toNat : Int))) := by
        rw [hF.out, hO.out, hA.out, hB.out]; rfl
      by_cases ho : ((O : Int) == ((Wd.field x 0 7).toNat : Int)) = true
      · by_cases ht : told F O A B x ((Wd.field x 12 3).toNat : Int) ((Wd.field x 25 7).toNat : Int) = true
        · have e : k = r := by
            have a1 : asks x k = true := by rw [hask.out, ho, ht]; rfl
            rcases Nat.lt_or_eq_of_le hk with c | c
            · rw [HN.out k c] at a1; cases a1
            · exact c
          have E : Hid (k = r) := e
          clear e
          go_wp2_with fail
          refine (told_any F O A B h8 lO lA lB x _ _ _).mono ?_
          rintro e w2 ⟨rfl, hk2⟩
          go_wp2_with fail
          go_ret2
          exact ⟨ret_ib (by rw [← E.out]; unfold fV; rw [if_pos hlt]) (by rw [← E.out]; unfold fB; rw [decide_eq_true hlt]), (hbr.alloc hbr.size _).trans (hk2.mono (by simp; have := hbr.size; omega))⟩
        · have ht' : told F O A B x ((Wd.field x 12 3).toNat : Int) ((Wd.field x 25 7).toNat : Int) = false := by simpa using ht
          have E : k + 1 ≤ r := by
            have a1 : asks x k = false := by rw [hask.out, ho, ht']; rfl
            rcases Nat.lt_or_eq_of_le hk with c | c
            · omega
            · rw [c] at a1; rw [HY.out (by omega)] at a1; cases a1
          clear ht
          go_wp2_with fail
          refine (told_any F O A B h8 lO lA lB x _ _ _).mono ?_
          rintro e w2 ⟨rfl, hk2⟩
          go_wp2_with fail
          go_roundw
          case rel => exact ⟨k + 1, by omega, by go_num, (hbr.alloc hbr.size _).trans (hk2.mono (by simp; have := hbr.size; omega))⟩
          case measure => simp [intOf]; omega
      · have ho' : ((O : Int) == ((Wd.field x 0 7).toNat : Int)) = false := by simpa using ho
        have E : k + 1 ≤ r := by
          have a1 : asks x k = false := by rw [hask.out, ho']; rfl
          rcases Nat.lt_or_eq_of_le hk with c | c
          · omega
          · rw [c] at a1; rw [HY.out (by omega)] at a1; cases a1
        clear ho
        go_wp2_with fail
        go_roundw
        case rel => exact ⟨k + 1, by omega, by go_num, hbr.alloc hbr.size _⟩
        case measure => simp [intOf]; omega
    · have e : k = 47 := by omega
      subst e
      have E : Hid (r = 47) := (by omega : r = 47)
      go_wp2_with fail
      go_ret2
      exact ⟨ret_ib (by rw [E.out]; rfl) (by rw [E.out]; rfl), hbr⟩
end Go.Proofs.Ytilphdfobflbiaa
