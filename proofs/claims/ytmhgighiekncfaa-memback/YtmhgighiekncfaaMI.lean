/-
  Plain facts on what was put, stored and read: byte by byte.
-/
import Derived.Test.YtmhgighiekncfaaMH
namespace Go.Proofs.Ytmhgighiekncfaa
open Go.RowKit Go.Maps Mm

namespace Mm
/-- How far behind a an address lies. -/
def far (x a : Int) : Nat := ((x - a) % 4294967296).toNat
theorem far_add {a : Int} {i : Nat} (hi : i < 4294967296) : far ((a + i) % 4294967296) a = i := by unfold far; omega
theorem look_out {l : Cs} (h : Rise l) {x : Int} (hx : ¬ (0 ≤ x ∧ x < 4294967296)) : look l x = 0 := look_none fun p hp e => by have := h.ok p hp; omega
theorem look_puts {l : Cs} {a : Int} {s : List UInt8} {x : Int} (hx : 0 ≤ x ∧ x < 4294967296) : ∀ k : Nat, k ≤ 65536 → look (puts l a s k) x = if far x a < k then ((s.getD (far x a) 0).toNat : Int) else look l x
  | 0, _ => by simp [puts]
  | k + 1, hk => by
    have ih := @look_puts l a s x hx k (by omega)
    unfold puts
    rw [look_set, ih]
    have hf : far x a = ((x - a) % 4294967296).toNat := rfl
    by_cases h : x = (a + k) % 4294967296
    · have e : far x a = k := by omega
      rw [if_pos h, e, if_pos (by omega)]
    · have e : far x a ≠ k := by omega
      rw [if_neg h]
      by_cases h2 : far x a < k
      · rw [if_pos h2, if_pos (by omega)]
      · rw [if_neg h2, if_neg (by omega)]
theorem look_sto {l : Cs} {a v : Int} {x : Int} (hx : 0 ≤ x ∧ x < 4294967296) : ∀ k : Nat, k ≤ 4 → look (sto l a v k) x = if far x a < k then v / 256 ^ far x a % 256 else look l x
  | 0, _ => by simp [sto]
  | k + 1, hk => by
    have ih := @look_sto l a v x hx k (by omega)
    unfold sto
    rw [look_set, ih]
    have hf : far x a = ((x - a) % 4294967296).toNat := rfl
    by_cases h : x = (a + k) % 4294967296
    · have e : far x a = k := by omega
      rw [if_pos h, e, if_pos (by omega)]
    · have e : far x a ≠ k := by omega
      rw [if_neg h]
      by_cases h2 : far x a < k
      · rw [if_pos h2, if_pos (by omega)]
      · rw [if_neg h2, if_neg (by omega)]
theorem ext' {l l' : Cs} (h : Rise l) (h' : Rise l') (e : ∀ x, 0 ≤ x ∧ x < 4294967296 → look l x = look l' x) : l = l' :=
  ext h h' fun x => by
    by_cases hx : 0 ≤ x ∧ x < 4294967296
    · exact e x hx
    · rw [look_out h hx, look_out h' hx]
theorem byte_ofNat (c : UInt8) : UInt8.ofNat ((c.toNat : Int).toNat) = c := by rw [Int.toNat_natCast]; exact UInt8.ofNat_toNat
/-- What was put is read. -/
theorem bytes_puts (l : Cs) (a : Int) (s : List UInt8) (n : Nat) (hn : n ≤ s.length) (hn2 : n ≤ 65536) (k : Nat) (hk : n ≤ k) (hk2 : k ≤ 65536) : bytesOf (puts l a s k) a n = s.take n := by
  apply List.ext_getElem
  · rw [bytesOf_len, List.length_take]; omega
  · intro i h1 h2
    rw [bytesOf_len] at h1
    rw [List.getElem_take]
    simp only [bytesOf, List.getElem_map, List.getElem_range, byteAt]
    rw [look_puts (by omega) k hk2, far_add (by omega), if_pos (by omega), List.getD_eq_getElem?_getD, List.getElem?_eq_getElem (by omega)]
    exact byte_ofNat _
theorem bytes_all (a : Int) (t : ByteArray) (h : t.size ≤ 65536) : (⟨(bytesOf (puts [] a t.data.toList t.size) a t.size).toArray⟩ : ByteArray) = t := by
  have e : t.size = t.data.toList.length := by simp
  rw [bytes_puts [] a t.data.toList t.size (by omega) h t.size (Nat.le_refl _) h, e, List.take_length]
/-- Noughts put over what was put. -/
theorem puts_zero (a : Int) (s z : List UInt8) (n : Nat) (hn : n ≤ 65536) (hz : ∀ i, z.getD i 0 = 0) : puts (puts [] a s n) a z n = [] := by
  refine ext' (rise_puts (rise_puts rise_nil _ _ _) _ _ _) rise_nil fun x hx => ?_
  rw [look_puts hx n hn, look_puts hx n hn]
  by_cases h : far x a < n
  · rw [if_pos h, hz]; rfl
  · rw [if_neg h, if_neg h]
end Mm

theorem bytes_any {pb bm : Nat} {l : Cs} {a : Int} (n : Int) (w : World) (h : MemAt w pb bm l) (ha : 0 ≤ a ∧ a < 4294967296) (hn : n ≤ 65536) :
    Calls Try.prog 17 #[.pointer (some ⟨pb, 0, none⟩), .int .u32 a, .int .i64 n] w fun e w' => e = .returned (.string ⟨(bytesOf l a n.toNat).toArray⟩) ∧ Below w.heap.size w w' := by
  by_cases h1 : n < 1
  · refine (bytes_none w h1).mono ?_
    rintro e w' ⟨rfl, rfl⟩
    rw [show n.toNat = 0 by omega]
    exact ⟨rfl, Below.refl _ _⟩
  · obtain ⟨k, rfl⟩ := Int.eq_ofNat_of_zero_le (show 0 ≤ n by omega)
    rw [Int.toNat_natCast]
    exact bytes_some k w h ha (by omega) (by omega)
end Go.Proofs.Ytmhgighiekncfaa
