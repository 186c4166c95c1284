/-
  Bytes of a memory.
-/
import Derived.Test.YtmhgighiekncfaaME
import Derived.Test.YtmhgighiekncfaaSA
namespace Go.Proofs.Ytmhgighiekncfaa
open Go.RowKit Go.Maps Go.Shelf Mm

namespace Mm
def byteAt (l : Cs) (a : Int) (i : Nat) : UInt8 := UInt8.ofNat (look l ((a + i) % 4294967296)).toNat
def bytesOf (l : Cs) (a : Int) (n : Nat) : List UInt8 := (List.range n).map (byteAt l a)
theorem bytesOf_succ (l : Cs) (a : Int) (n : Nat) : bytesOf l a (n + 1) = bytesOf l a n ++ [byteAt l a n] := by simp [bytesOf, List.range_succ]
theorem bytesOf_len (l : Cs) (a : Int) (n : Nat) : (bytesOf l a n).length = n := by simp [bytesOf]
theorem byteAt_val {l : Cs} (h : Rise l) (a : Int) (i : Nat) : ((byteAt l a i).toNat : Int) = look l ((a + i) % 4294967296) := by
  have := look_range h ((a + i) % 4294967296)
  unfold byteAt
  rw [UInt8.toNat_ofNat']
  omega
theorem bytesOf_cells {l : Cs} (h : Rise l) (a : Int) (n : Nat) : Lib.byteCells (bytesOf l a n) ++ [.int .u8 (look l ((a + n) % 4294967296))] = Lib.byteCells (bytesOf l a (n + 1)) := by
  rw [bytesOf_succ, Lib.byteCells_append, ← byteAt_val h]; rfl
end Mm

theorem bytes_none {pb : Nat} {a n : Int} (w : World) (hn : n < 1) :
    Calls Try.prog 17 #[.pointer (some ⟨pb, 0, none⟩), .int .u32 a, .int .i64 n] w fun e w' => e = .returned (.string ⟨#[]⟩) ∧ w' = w := by
  have h1 : decide (n < 1) = true := decide_eq_true hn
  go_enter Try.func17, Try.ntmps17
  go_wp2
  go_ret
  exact ⟨rfl, rfl⟩

set_option maxHeartbeats 2000000 in
set_option maxRecDepth 100000 in
theorem bytes_some {pb bm : Nat} {l : Cs} {a : Int} (n : Nat) (w : World) (h : MemAt w pb bm l) (ha : 0 ≤ a ∧ a < 4294967296) (hn1 : 1 ≤ n) (hn2 : n ≤ 65536) :
    Calls Try.prog 17 #[.pointer (some ⟨pb, 0, none⟩), .int .u32 a, .int .i64 n] w fun e w' => e = .returned (.string ⟨(bytesOf l a n).toArray⟩) ∧ Below w.heap.size w w' := by
  obtain ⟨ha0, ha1⟩ := ha
  have hnew : (w.alloc (.cells #[.pointer none, .slice none 0 0] 59)).heap[w.heap.size]? = some (.cells #[.pointer none, .slice none 0 0] 59 (0, 0)) := World.alloc_heap_new w _
  have hc := Try.Builder_Grow_fresh w.heap.size w.heap.size n _ (Nat.le_refl _) hnew (by simp) (by omega)
  have HC := hide hc
  clear hc hnew
  have h1 : decide ((n : Int) < 1) = false := decide_eq_false (by omega)
  have h2 : decide ((2147483647 : Int) < n) = false := decide_eq_false (by omega)
  go_enter Try.func17, Try.ntmps17
  go_wp2_with fail
  refine HC.out.mono ?_
  rintro e w1 ⟨rfl, hB1, hb1⟩
  have hb1' : Below w.heap.size w w1 := ((Below.refl _ w).alloc (Nat.le_refl _) _).trans hb1
  go_wp2
  go_loopw [19] (fun u W => ∃ k : Nat, u = .int .u32 k ∧ k ≤ n ∧ Lib.IsBuilder 59 5 w.heap.size w.heap.size (Lib.byteCells (bytesOf l a k)) W ∧ Below w.heap.size w W) (fun u _ => n - (intOf u).toNat)
  case atStart => exact ⟨0, rfl, Nat.zero_le _, .inr hB1, hb1'⟩
  case round =>
    clear hB1 hb1 hb1'
    obtain ⟨k, rfl, hk, hB, hb⟩ := hrel
    have hm := h.below hb
    have cm := hm.cell
    by_cases hlt : k < n
    · have hcl := Lib.byteCells_length (bytesOf l a k)
      rw [bytesOf_len] at hcl
      have hw := fun c => write_u w.heap.size w.heap.size (Lib.byteCells (bytesOf l a k)) c wr hB (by omega) hb.size
      have HWR := hide hw
      have HNX := hide (bytesOf_cells h.rise a k)
      clear hw hcl
      go_wp2_with (first
        | (at_lookup; refine wpList_lookup_own_int _ rfl _ _ 51 rfl 27 5 .u8 lawU Try.underlying51 Try.underlying5 (zeroB _) bm _ _ rfl hm.own _ _ rfl (keyOf_int_mk Try.underlying27 (wf_u32 (by omega))) ?_; intro c hat hwc; rw [D_atKey] at hat; have hce := lit_u8 hat; subst hce)
        | (go_at_call 28; refine (HWR.out _).mono ?_; rintro e w2 ⟨rfl, hB2, hb2⟩)
        | go_in)
      rw [HNX.out] at hB2
      exact ⟨⟨k + 1, by go_num, by omega, .inr hB2, hb.trans hb2⟩, by simp [intOf]; omega⟩
    · have e : k = n := by omega
      subst e
      have hst := Try.Builder_String_any w.heap.size w.heap.size (bytesOf l a k) wr hB hb.size
      have HST := hide hst
      clear hst
      go_wp2_with (go_at_call 29; refine HST.out.mono ?_; rintro e w2 ⟨rfl, hb2⟩)
      go_ret
      exact ⟨rfl, hb.trans hb2⟩
end Go.Proofs.Ytmhgighiekncfaa
