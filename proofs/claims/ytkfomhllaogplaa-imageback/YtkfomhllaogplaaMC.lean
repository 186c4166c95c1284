/-
  Load, Store and Put of a memory: what they answer and what they leave.
-/
import Derived.Test.YtkfomhllaogplaaMB
import Derived.Laws.BitsAllLaws
import Derived.Laws.ShiftsVarLaws
import Derived.Deep.Light
namespace Go.Proofs.Ytkfomhllaogplaa
open Go.RowKit Go.Maps Mm

namespace Mm
def num (l : Cs) (a : Int) : Nat → Int
  | 0 => 0
  | k + 1 => num l a k + look l ((a + k) % 4294967296) * 256 ^ k
def sto (l : Cs) (a v : Int) : Nat → Cs
  | 0 => l
  | k + 1 => set (sto l a v k) ((a + k) % 4294967296) (v / 256 ^ k % 256)
def puts (l : Cs) (a : Int) (s : List UInt8) : Nat → Cs
  | 0 => l
  | k + 1 => set (puts l a s k) ((a + k) % 4294967296) ((s.getD k 0).toNat : Int)
theorem num_range {l : Cs} (h : Rise l) (a : Int) : ∀ k : Nat, 0 ≤ num l a k ∧ num l a k < 256 ^ k
  | 0 => by simp [num]
  | k + 1 => by
    have ih := num_range h a k
    have := look_range h ((a + k) % 4294967296)
    unfold num
    have e : (256 : Int) ^ (k + 1) = 256 ^ k * 256 := Int.pow_succ ..
    have hp : (0 : Int) < 256 ^ k := Int.pow_pos (by decide)
    have h1 : look l ((a + k) % 4294967296) * 256 ^ k ≤ 255 * 256 ^ k := Int.mul_le_mul_of_nonneg_right this.2 (by omega)
    have h2 : 0 ≤ look l ((a + k) % 4294967296) * 256 ^ k := Int.mul_nonneg this.1 (by omega)
    rw [e]; omega
theorem rise_sto {l : Cs} (h : Rise l) (a v : Int) : ∀ k : Nat, Rise (sto l a v k)
  | 0 => h
  | k + 1 => rise_set (rise_sto h a v k) (by omega) (by omega)
theorem rise_puts {l : Cs} (h : Rise l) (a : Int) (s : List UInt8) : ∀ k : Nat, Rise (puts l a s k)
  | 0 => h
  | k + 1 => rise_set (rise_puts h a s k) (by omega) (by have := (s.getD k 0).toNat_lt; omega)
theorem or_nat (x y e : Nat) (hx : x < 2 ^ e) (hy : y * 2 ^ e < 4294967296) (hx' : x < 4294967296) : bits .or .u32 (x : Int) ((y * 2 ^ e : Nat) : Int) = ((x + y * 2 ^ e : Nat) : Int) := by
  rw [u32_or_nat _ _ hx' hy]
  have h : x ||| y * 2 ^ e = x + y * 2 ^ e := by
    rw [Nat.or_comm, Nat.mul_comm, ← Nat.two_pow_add_eq_or_of_lt hx, Nat.add_comm]
  rw [h]
theorem or_0 (v b : Int) (hv : 0 ≤ v ∧ v < 1) (hb : 0 ≤ b ∧ b ≤ 255) : bits .or .u32 v b = v + b * 1 := by
  obtain ⟨x, rfl⟩ := Int.eq_ofNat_of_zero_le hv.1
  obtain ⟨y, rfl⟩ := Int.eq_ofNat_of_zero_le hb.1
  have := or_nat x y 0 (by omega) (by omega) (by omega)
  rw [show y * 2 ^ 0 = y from by omega] at this
  rw [this]; omega
theorem or_1 (v b : Int) (hv : 0 ≤ v ∧ v < 256) (hb : 0 ≤ b ∧ b ≤ 255) : bits .or .u32 v (b * 256) = v + b * 256 := by
  obtain ⟨x, rfl⟩ := Int.eq_ofNat_of_zero_le hv.1
  obtain ⟨y, rfl⟩ := Int.eq_ofNat_of_zero_le hb.1
  have := or_nat x y 8 (by omega) (by omega) (by omega)
  rw [show (y : Int) * 256 = ((y * 2 ^ 8 : Nat) : Int) by omega, this]; omega
theorem or_2 (v b : Int) (hv : 0 ≤ v ∧ v < 65536) (hb : 0 ≤ b ∧ b ≤ 255) : bits .or .u32 v (b * 65536) = v + b * 65536 := by
  obtain ⟨x, rfl⟩ := Int.eq_ofNat_of_zero_le hv.1
  obtain ⟨y, rfl⟩ := Int.eq_ofNat_of_zero_le hb.1
  have := or_nat x y 16 (by omega) (by omega) (by omega)
  rw [show (y : Int) * 65536 = ((y * 2 ^ 16 : Nat) : Int) by omega, this]; omega
theorem or_3 (v b : Int) (hv : 0 ≤ v ∧ v < 16777216) (hb : 0 ≤ b ∧ b ≤ 255) : bits .or .u32 v (b * 16777216) = v + b * 16777216 := by
  obtain ⟨x, rfl⟩ := Int.eq_ofNat_of_zero_le hv.1
  obtain ⟨y, rfl⟩ := Int.eq_ofNat_of_zero_le hb.1
  have := or_nat x y 24 (by omega) (by omega) (by omega)
  rw [show (y : Int) * 16777216 = ((y * 2 ^ 24 : Nat) : Int) by omega, this]; omega
theorem lit_u8 {x y : Int} (h : (DataW.lit (Lit.int .u8 x) : DataW Unit) = .lit (.int .u8 y)) : x = y := by simpa using h
theorem puts_at (l : Cs) (a : Int) (s : ByteArray) (k : Nat) (h : k < s.size) : set (puts l a s.data.toList k) ((a + k) % 4294967296) ((s[k].toNat : Nat) : Int) = puts l a s.data.toList (k + 1) := by
  conv => rhs; unfold puts
  have e : s.data.toList.getD k 0 = s[k] := by
    rw [List.getD_eq_getElem?_getD, List.getElem?_eq_getElem (by simpa using h)]; rfl
  rw [e]
theorem sto_1 (l : Cs) {a v : Int} (h0 : 0 ≤ a) (h1 : a < 4294967296) : set (sto l a v 0) a (v % 256) = sto l a v (0 + 1) := by
  have e : (a + ((0 : Nat) : Int)) % 4294967296 = a := by omega
  conv => rhs; unfold sto
  rw [e, Int.pow_zero, Int.ediv_one]
theorem sto_2 (l : Cs) {a v : Int} : set (sto l a v 1) ((a + 1) % 4294967296) (v / 256 % 256) = sto l a v (1 + 1) := rfl
theorem sto_3 (l : Cs) {a v : Int} : set (sto l a v 2) ((a + 2) % 4294967296) (v / 65536 % 256) = sto l a v (2 + 1) := rfl
theorem sto_4 (l : Cs) {a v : Int} (h0 : 0 ≤ v) (h1 : v < 4294967296) : set (sto l a v 3) ((a + 3) % 4294967296) (v / 16777216) = sto l a v (3 + 1) := by
  rw [show v / 16777216 = v / 16777216 % 256 by omega]; rfl
theorem num_1 {l : Cs} (h : Rise l) {a : Int} (h0 : 0 ≤ a) (h1 : a < 4294967296) : Value.int .u32 (bits .or .u32 (num l a 0) (look l a % 4294967296)) = Value.int .u32 (num l a (0 + 1)) := by
  have := look_range h a
  rw [show look l a % 4294967296 = look l a by omega, show num l a 0 = 0 from rfl, or_0 _ _ (by omega) this]
  have e : (a + ((0 : Nat) : Int)) % 4294967296 = a := by omega
  unfold num; rw [e]; simp [num]
theorem num_2 {l : Cs} (h : Rise l) {a : Int} : Value.int .u32 (bits .or .u32 (num l a 1) (look l ((a + 1) % 4294967296) % 4294967296 * 256 % 4294967296)) = Value.int .u32 (num l a (1 + 1)) := by
  have := look_range h ((a + 1) % 4294967296)
  have hn := num_range h a 1
  rw [show look l ((a + 1) % 4294967296) % 4294967296 * 256 % 4294967296 = look l ((a + 1) % 4294967296) * 256 by omega, or_1 _ _ (by omega) this]
  rfl
theorem num_3 {l : Cs} (h : Rise l) {a : Int} : Value.int .u32 (bits .or .u32 (num l a 2) (look l ((a + 2) % 4294967296) % 4294967296 * 65536 % 4294967296)) = Value.int .u32 (num l a (2 + 1)) := by
  have := look_range h ((a + 2) % 4294967296)
  have hn := num_range h a 2
  rw [show look l ((a + 2) % 4294967296) % 4294967296 * 65536 % 4294967296 = look l ((a + 2) % 4294967296) * 65536 by omega, or_2 _ _ (by omega) this]
  rfl
theorem num_4 {l : Cs} (h : Rise l) {a : Int} : Value.int .u32 (bits .or .u32 (num l a 3) (look l ((a + 3) % 4294967296) % 4294967296 * 16777216 % 4294967296)) = Value.int .u32 (num l a (3 + 1)) := by
  have := look_range h ((a + 3) % 4294967296)
  have hn := num_range h a 3
  rw [show look l ((a + 3) % 4294967296) % 4294967296 * 16777216 % 4294967296 = look l ((a + 3) % 4294967296) * 16777216 by omega, or_3 _ _ (by omega) this]
  rfl
end Mm

theorem width_yes (n : Int) (h : n = 1 ∨ n = 2 ∨ n = 4) (w : World) : Calls Try.prog 42 #[.int .i64 n] w fun e w' => e = .returned (.bool true) ∧ w' = w := by
  rcases h with rfl | rfl | rfl
  all_goals
    go_enter Try.func42, Try.ntmps42
    go_wp2
    go_ret
    exact ⟨rfl, rfl⟩
theorem width_no (n : Int) (h : n ≠ 1 ∧ n ≠ 2 ∧ n ≠ 4) (w : World) : Calls Try.prog 42 #[.int .i64 n] w fun e w' => e = .returned (.bool false) ∧ w' = w := by
  have h1 : (n == 1) = false := by simp [h.1]
  have h2 : (n == 2) = false := by simp [h.2.1]
  have h3 : (n == 4) = false := by simp [h.2.2]
  go_enter Try.func42, Try.ntmps42
  go_wp2
  go_ret
  exact ⟨rfl, rfl⟩

theorem load_no {a n : Int} (p : Value) (h : n ≠ 1 ∧ n ≠ 2 ∧ n ≠ 4) (w : World) : Calls Try.prog 25 #[p, .int .u32 a, .int .i64 n] w fun e w' => e = .returned (.tuple #[.int .u32 0, .int .i64 1]) ∧ w' = w := by
  go_enter Try.func25, Try.ntmps25
  go_wp2_with (go_at_call 42; refine (width_no _ h _).mono ?_; rintro e w' ⟨rfl, rfl⟩)
  go_ret2
  exact ⟨rfl, rfl⟩

theorem grown_trans {a b c : World} {row : Option Nat} (h : a.grownBy b row) (k : b.grownBy c row) : a.grownBy c row := h.andThen k (fun _ e => .inr e)
def intOf : Value → Int | .int _ q => q | _ => 0

set_option maxHeartbeats 2000000 in
theorem load_any {pb bm : Nat} {l : Cs} {a n : Int} (w : World) (h : MemAt w pb bm l) (ha : 0 ≤ a ∧ a < 4294967296) (hn : n = 1 ∨ n = 2 ∨ n = 4) :
    Calls Try.prog 25 #[.pointer (some ⟨pb, 0, none⟩), .int .u32 a, .int .i64 n] w fun e w' => e = .returned (.tuple #[.int .u32 (num l a n.toNat), .int .i64 0]) ∧ w' = w := by
  have c0 := h.cell
  have hown := h.own
  have hr := h.rise
  obtain ⟨ha0, ha1⟩ := ha
  have hn1 : 1 ≤ n := by omega
  have hn2 : n ≤ 4 := by omega
  go_enter Try.func25, Try.ntmps25
  go_wp2_with (go_at_call 42; refine (width_yes _ hn _).mono ?_; rintro e w' ⟨rfl, rfl⟩)
  go_loop [8, 15] (fun v i => ∃ k : Nat, (k : Int) ≤ n ∧ i = .int .u32 k ∧ v = .int .u32 (num l a k)) (fun _ i => (n - intOf i).toNat)
  case atStart => exact ⟨0, by omega, rfl, rfl⟩
  case round =>
    obtain ⟨k, hk, rfl, rfl⟩ := hrel
    by_cases hlt : (k : Int) < n
    · have hk4 : k = 0 ∨ k = 1 ∨ k = 2 ∨ k = 3 := by omega
      rcases hk4 with rfl | rfl | rfl | rfl
      · go_wp2_with (first
          | (at_lookup; refine wpList_lookup_own_int _ rfl _ _ 79 rfl 22 5 .u8 lawU Try.underlying79 Try.underlying5 (zeroB _) bm _ _ rfl hown _ _ rfl (keyOf_int_mk Try.underlying22 (wf_u32 (by omega))) ?_; intro c hat hwc)
          | go_in)
        rw [D_atKey] at hat
        have e := lit_u8 hat
        subst e
        exact ⟨⟨1, by omega, rfl, num_1 hr ha0 ha1⟩, by simp [intOf]; omega⟩
      · go_wp2_with (first
          | (at_lookup; refine wpList_lookup_own_int _ rfl _ _ 79 rfl 22 5 .u8 lawU Try.underlying79 Try.underlying5 (zeroB _) bm _ _ rfl hown _ _ rfl (keyOf_int_mk Try.underlying22 (wf_u32 (by omega))) ?_; intro c hat hwc)
          | go_in)
        rw [D_atKey] at hat
        have e := lit_u8 hat
        subst e
        exact ⟨⟨2, by omega, rfl, num_2 hr⟩, by simp [intOf]; omega⟩
      · go_wp2_with (first
          | (at_lookup; refine wpList_lookup_own_int _ rfl _ _ 79 rfl 22 5 .u8 lawU Try.underlying79 Try.underlying5 (zeroB _) bm _ _ rfl hown _ _ rfl (keyOf_int_mk Try.underlying22 (wf_u32 (by omega))) ?_; intro c hat hwc)
          | go_in)
        rw [D_atKey] at hat
        have e := lit_u8 hat
        subst e
        exact ⟨⟨3, by omega, rfl, num_3 hr⟩, by simp [intOf]; omega⟩
      · go_wp2_with (first
          | (at_lookup; refine wpList_lookup_own_int _ rfl _ _ 79 rfl 22 5 .u8 lawU Try.underlying79 Try.underlying5 (zeroB _) bm _ _ rfl hown _ _ rfl (keyOf_int_mk Try.underlying22 (wf_u32 (by omega))) ?_; intro c hat hwc)
          | go_in)
        rw [D_atKey] at hat
        have e := lit_u8 hat
        subst e
        exact ⟨⟨4, by omega, rfl, num_4 hr⟩, by simp [intOf]; omega⟩
    · go_wp2
      go_ret2
      have e : n.toNat = k := by omega
      rw [e]; exact ⟨rfl, rfl⟩

set_option maxHeartbeats 2000000 in
theorem mput_any {pb bm : Nat} {l : Cs} {a : Int} {s : ByteArray} (w : World) (h : MemAt w pb bm l) (ha : 0 ≤ a ∧ a < 4294967296) (hs : s.size ≤ 65536) :
    Calls Try.prog 24 #[.pointer (some ⟨pb, 0, none⟩), .int .u32 a, .string s] w fun e w' => e = .returned (.tuple #[]) ∧ MemAt w' pb bm (puts l a s.data.toList s.size) ∧ w.grownBy w' (some bm) := by
  obtain ⟨ha0, ha1⟩ := ha
  go_enter Try.func24, Try.ntmps24
  go_wp2
  go_loopw [9] (fun i wr => ∃ k : Nat, k ≤ s.size ∧ i = .int .i64 k ∧ MemAt wr pb bm (puts l a s.data.toList k) ∧ w.grownBy wr (some bm)) (fun i _ => s.size - (intOf i).toNat)
  case atStart => exact ⟨0, by omega, rfl, h, ⟨rfl, rfl, rfl, Nat.le_refl _, fun _ _ _ => rfl⟩⟩
  case round =>
    obtain ⟨k, hk, rfl, hm, hg⟩ := hrel
    by_cases hlt : k < s.size
    · have hb := (s[k]).toNat_lt
      go_wp2_with (go_at_call 41; refine (set_any _ hm (by omega) (by omega)).mono ?_; rintro e w2 ⟨rfl, hm2, hg2⟩)
      exact ⟨⟨k + 1, by omega, by go_num, puts_at l a s k hlt ▸ hm2, grown_trans hg hg2⟩, by simp [intOf]; omega⟩
    · go_wp2
      go_end0
      have e : s.size = k := by omega
      rw [e]; exact ⟨rfl, hm, hg⟩
end Go.Proofs.Ytkfomhllaogplaa
