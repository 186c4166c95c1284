/-
  The walk of MemApart: it answers true of any address and any two numbers.
-/
import Derived.Test.YtkjgkehcfnkcgaaMH
namespace Go.Proofs.Ytkjgkehcfnkcgaa
open Go.RowKit Go.Maps Mm

theorem apart_eq (a v u : Int) : sto (sto [] a v 4) ((a + 4) % 4294967296) u 2 = sto (sto [] ((a + 4) % 4294967296) u 2) a v 4 := by
  refine ext (rise_sto (rise_sto rise_nil _ _ _) _ _ _) (rise_sto (rise_sto rise_nil _ _ _) _ _ _) fun x => ?_
  simp only [sto, look_set]
  (repeat' split) <;> first | rfl | omega

set_option maxHeartbeats 4000000 in
set_option maxRecDepth 100000 in
theorem memApart_walk (a v u : Int) (ha : 0 ≤ a ∧ a < 4294967296) (hv : 0 ≤ v ∧ v < 4294967296) (hu : 0 ≤ u ∧ u < 4294967296) (w : World) :
    Calls Try.prog 6 #[.int .u32 a, .int .u32 v, .int .u32 u] w fun e w' => e = .returned (.bool true) ∧ Below w.heap.size w w' := by
  obtain ⟨ha0, ha1⟩ := ha
  go_enter Try.func6, Try.ntmps6
  go_wp2_with fail
  refine (new_op w).mono ?_
  rintro e w1 ⟨p, m, rfl, hm, hp1, hm1, hb1⟩
  go_wp2_with fail
  refine (new_op w1).mono ?_
  rintro e w2 ⟨q, n, rfl, hn, hq2, hn2, hb2⟩
  have l1 := hm.lt
  have l2 := hm.lt'
  have hm2 := hm.below hb2
  have hb2' : Below w.heap.size w w2 := hb1.trans (hb2.mono hb1.size)
  clear hm
  go_wp2_with fail
  refine (store_any w2 hm2 (by omega) (Or.inr (Or.inr rfl)) hv).mono ?_
  rintro e w3 ⟨rfl, hm3, hg3⟩
  have hn3 := hn.apart hg3 (by omega) (by omega)
  have hb3 : Below w.heap.size w w3 := hb2'.trans (grown_below hg3 hm1 hb2'.size)
  clear hm2 hn
  go_wp2_with fail
  refine (store_any w3 hm3 (by omega) (Or.inr (Or.inl rfl)) hu).mono ?_
  rintro e w4 ⟨rfl, hm4, hg4⟩
  have hn4 := hn3.apart hg4 (by omega) (by omega)
  have hb4 : Below w.heap.size w w4 := hb3.trans (grown_below hg4 hm1 hb3.size)
  clear hm3 hn3
  go_wp2_with fail
  refine (store_any w4 hn4 (by omega) (Or.inr (Or.inl rfl)) hu).mono ?_
  rintro e w5 ⟨rfl, hn5, hg5⟩
  have hm5 := hm4.apart hg5 (by omega) (by omega)
  have hb5 : Below w.heap.size w w5 := hb4.trans (grown_below hg5 (by have := hb1.size; omega) hb4.size)
  clear hm4 hn4
  go_wp2_with fail
  refine (store_any w5 hn5 (by omega) (Or.inr (Or.inr rfl)) hv).mono ?_
  rintro e w6 ⟨rfl, hn6, hg6⟩
  have hm6 := hm5.apart hg6 (by omega) (by omega)
  have hb6 : Below w.heap.size w w6 := hb5.trans (grown_below hg6 (by have := hb1.size; omega) hb5.size)
  have hE : sto (sto [] ((a + 4) % 4294967296) u (2 : Int).toNat) a v (4 : Int).toNat = sto (sto [] a v (4 : Int).toNat) ((a + 4) % 4294967296) u (2 : Int).toNat := (apart_eq a v u).symm
  rw [hE] at hn6
  obtain ⟨L, hL⟩ : ∃ L, sto (sto [] a v (4 : Int).toNat) ((a + 4) % 4294967296) u (2 : Int).toNat = L := ⟨_, rfl⟩
  rw [hL] at hn6 hm6
  clear hm5 hn5 hE hL hb2 hb2' hb3 hb4 hb5 hg3 hg4 hg5 hg6
  go_wp2_with fail
  refine (cells_any w6 hm6).mono ?_
  rintro e w7 ⟨x, rfl, hx, hb7⟩
  have hn7 := hn6.below hb7
  have hb7' : Below w.heap.size w w7 := hb6.trans (hb7.mono hb6.size)
  go_wp2_with fail
  refine (cells_any w7 hn7).mono ?_
  rintro e w8 ⟨y, rfl, hy, hb8⟩
  have hx8 := hx.kept (row := none) ⟨hb8.os, hb8.tape, hb8.output, hb8.size, fun k hk _ => hb8.block k hk⟩ (by cases x.ownBlock <;> simp)
  have hb8' : Below w.heap.size w w8 := hb7'.trans (hb8.mono hb7'.size)
  go_wp2_with fail
  refine (same_yes w8 hx8 hy hm6.rise.length).mono ?_
  rintro e w9 ⟨rfl, n9, hw9⟩
  have hb9 : Below w.heap.size w w9 := by rw [hw9]; exact hb8'.trans (drewN_below w8 n9 _)
  clear hw9
  go_wp2_with fail
  refine (fixed_any w9).mono ?_
  rintro e w10 ⟨rfl, hb10⟩
  go_wp2_with fail
  go_ret
  exact ⟨rfl, hb9.trans (hb10.mono hb9.size)⟩
end Go.Proofs.Ytkjgkehcfnkcgaa
