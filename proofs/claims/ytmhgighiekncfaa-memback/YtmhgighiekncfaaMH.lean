/-
  The calls whose answers the document fixes: they answer so.
-/
import Derived.Test.YtmhgighiekncfaaMF
import Derived.Test.YtmhgighiekncfaaMG
namespace Go.Proofs.Ytmhgighiekncfaa
open Go.RowKit Go.Maps Mm

/-- The same, the blocks' numbers as letters. -/
theorem new_op (w : World) : Calls Try.prog 9 #[] w fun e w' => ∃ pb bm : Nat, e = .returned (.pointer (some ⟨pb, 0, none⟩)) ∧ MemAt w' pb bm [] ∧ w.heap.size ≤ pb ∧ w.heap.size ≤ bm ∧ Below w.heap.size w w' :=
  (new_any w).mono fun _ _ ⟨he, hm, hb, _⟩ => ⟨_, _, he, hm, by omega, by omega, hb⟩
theorem copy_op {pb bm : Nat} {l : Cs} (w : World) (h : MemAt w pb bm l) : Calls Try.prog 19 #[.pointer (some ⟨pb, 0, none⟩)] w fun e w' => ∃ pb' bm' : Nat, e = .returned (.pointer (some ⟨pb', 0, none⟩)) ∧ MemAt w' pb' bm' l ∧ w.heap.size ≤ pb' ∧ w.heap.size ≤ bm' ∧ Below w.heap.size w w' :=
  (copy_any w h).mono fun _ _ ⟨he, hm, hb, _⟩ => ⟨_, _, he, hm, by omega, by omega, hb⟩
theorem MemAt.apart {w w' : World} {pb bm b : Nat} {l : Cs} (h : MemAt w pb bm l) (hg : w.grownBy w' (some b)) (h1 : pb ≠ b) (h2 : bm ≠ b) : MemAt w' pb bm l := h.kept hg (by simpa using h1) (by simpa using h2)
theorem drewN_below (w : World) (n B : Nat) : Below B w (w.drewN n) := ⟨rfl, rfl, rfl, Nat.le_refl _, fun _ _ => rfl⟩

def fxL : Cs := [(0, 18), (4294967295, 52)]
theorem fx_sto : sto [] 4294967295 4660 (2 : Int).toNat = fxL := by decide +kernel
theorem fx_num : num fxL 0 (1 : Int).toNat = 18 := by decide +kernel
theorem fx_bytes : bytesOf fxL 4294967295 3 = [52, 18, 0] := by decide +kernel

theorem grown_below {w w' : World} {b B : Nat} (h : w.grownBy w' (some b)) (hB : B ≤ b) (hs : B ≤ w.heap.size) : Below B w w' := (Below.refl B w).grown h hs (fun k e => by cases e; exact hB)

set_option maxHeartbeats 4000000 in
set_option maxRecDepth 100000 in
theorem fixed3_any (w : World) : Calls Try.prog 22 #[] w fun e w' => e = .returned (.bool true) ∧ Below w.heap.size w w' := by
  go_enter Try.func22, Try.ntmps22
  go_wp2_with fail
  refine (new_any w).mono ?_
  rintro e w1 ⟨rfl, hm1, hb1, hz1⟩
  go_wp2_with fail
  refine (store_any w1 hm1 (by omega) (Or.inr (Or.inl rfl)) (by omega)).mono ?_
  rintro e w2 ⟨rfl, hm2, hg2⟩
  rw [fx_sto] at hm2
  have hb2 : Below w.heap.size w w2 := hb1.trans (grown_below hg2 (Nat.le_refl _) hb1.size)
  clear hm1 hz1
  go_wp2_with fail
  refine (load_any w2 hm2 (by omega) (Or.inl rfl)).mono ?_
  rintro e w3 ⟨rfl, rfl⟩
  rw [fx_num]
  go_wp2_with fail
  refine (load_no _ (by decide) w3).mono ?_
  rintro e w4 ⟨rfl, rfl⟩
  go_wp2_with fail
  refine (cells_any w4 hm2).mono ?_
  rintro e w5 ⟨v, rfl, ho5, hb5⟩
  have hm5 := hm2.below hb5
  have hb5' : Below w.heap.size w w5 := hb2.trans (hb5.mono hb2.size)
  go_wp2_with fail
  have hlit := World.ownsRow_lit (base := 0) (e := 42) (size := 2) w5 #[.int .u32 0, .int .u8 18, .int .u32 4294967295, .int .u8 52] 2 (Nat.zero_le _) (by decide) rfl
  refine (same_yes (l := fxL) _ (ho5.alloc _) hlit (by decide)).mono ?_
  rintro e w6 ⟨rfl, n6, hw6⟩
  have hb6 : Below w5.heap.size w5 w6 := by
    rw [hw6]
    have := (Below.refl w5.heap.size w5).alloc (Nat.le_refl _) (.cells #[.int .u32 0, .int .u8 18, .int .u32 4294967295, .int .u8 52] 42)
    exact ⟨this.os, this.tape, this.output, this.size, this.block⟩
  have hm6 := hm5.below hb6
  have hb6' : Below w.heap.size w w6 := hb5'.trans (hb6.mono hb5'.size)
  clear hlit hw6 ho5 hm2 hb2 hb1 hg2 hb5 hm5 hb5' hb6
  go_wp2_with fail
  refine (bytes_some 3 w6 hm6 (by omega) (by omega) (by omega)).mono ?_
  rintro e w7 ⟨rfl, hb7⟩
  rw [fx_bytes]
  go_wp2
  go_ret
  exact ⟨rfl, hb6'.trans (hb7.mono hb6'.size)⟩
end Go.Proofs.Ytmhgighiekncfaa
