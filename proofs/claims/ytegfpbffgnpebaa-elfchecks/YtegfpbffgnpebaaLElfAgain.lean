/-
  The walk of ElfAgain.
-/
import Derived.Test.YtegfpbffgnpebaaEV
namespace Go.Proofs.Ytegfpbffgnpebaa
open Go.RowKit El Go.Lib
open Classical
set_option linter.unusedSimpArgs false

theorem cut_takeE (s : ByteArray) (K : Nat) : s.extract 0 (min (s.size : Int) (K : Int)).toNat = ⟨(s.data.toList.take K).toArray⟩ := by
  have h := ext_to s.data.toList (min (s.size : Int) (K : Int)).toNat
  have e : (⟨s.data.toList.toArray⟩ : ByteArray) = s := rfl
  rw [e] at h
  rw [h]
  congr 2
  have hl : s.data.toList.length = s.size := (Lib.size_eq s).symm
  by_cases hk : s.size ≤ K
  · rw [List.take_of_length_le (by omega), List.take_of_length_le (by omega)]
  · rw [show (min (s.size : Int) (K : Int)).toNat = K by omega]
theorem may_fits {l : List Seg} (h : chk l = 0) : ∀ g ∈ l, Fits g := fun g hg => by
  obtain ⟨m1, m2, _⟩ := (chk_zero h).2.1 g hg
  exact ⟨by omega, by omega⟩
/-- Two programs in boxes of the law's own. -/
structure TwoC (w : World) (b b' : Nat) (X Y : Prg) (v u : Value) (W : World) : Prop where
  x : W.heap[b]? = some (.cells #[.int .u32 (X.entry.toNat : Int), .int .u32 (X.flags.toNat : Int), v] 25 (0, 0))
  xs : SlS W v X.segs
  y : W.heap[b']? = some (.cells #[.int .u32 (Y.entry.toNat : Int), .int .u32 (Y.flags.toNat : Int), u] 25 (0, 0))
  ys : SlS W u Y.segs
  low : Below w.heap.size w W
theorem TwoC.below {w W W' : World} {b b' : Nat} {X Y : Prg} {v u : Value} (h : TwoC w b b' X Y v u W) (hb : Below W.heap.size W W') : TwoC w b b' X Y v u W' := ⟨keptN hb h.x, h.xs.below hb, keptN hb h.y, h.ys.below hb, h.low.trans (hb.mono h.low.size)⟩
set_option maxRecDepth 100000 in
set_option maxHeartbeats 600000 in
theorem elfAgain_at (s : ByteArray) (T : List UInt8) (hT : s.extract 0 (min (s.size : Int) 2000).toNat = ⟨T.toArray⟩) (hTl : T.length ≤ 2000) (w : World) :
    Calls Try.prog 5 #[.string s] w fun e w' => e = .returned (.bool true) ∧ Below w.heap.size w w' := by
  go_enter Try.func5, Try.ntmps5
  go_wp2_with fail
  refine (parse_any T (by omega) _).mono ?_
  rintro e w1 ⟨v, he, hS1, hb1⟩
  obtain ⟨p, c, rfl, _⟩ := hS1.len
  by_cases h0 : prsE T = 0
  · have f1 := (prs_fine h0).1
    have f4 := (prs_fine h0).2.2.2
    rw [h0] at he
    generalize prsV T = X at *
    unfold prgV at he
    subst he
    have hX2 : (datas X.segs).length ≤ 32000 := by
      have h16 := (chk_zero f1).1
      have := datas_bound X.segs 2000 (fun g hg => by have := f4 g hg; omega)
      have h3 : X.segs.length * 2000 ≤ 16 * 2000 := Nat.mul_le_mul_right _ h16
      omega
    have hX1 := (chk_zero f1).1
    have hB := back_wr (x := X) f1 (by rw [wr_len]; omega)
    have hv : wrV X = El.wr X := by unfold wrV; rw [if_pos f1]
    have hwl : (El.wr X).length ≤ 40000 := by rw [wr_len]; omega
    have b1 := (Below.refl _ w1).alloc (Nat.le_refl _) (.cells #[.int .u32 (X.entry.toNat : Int), .int .u32 (X.flags.toNat : Int), .slice p X.segs.length c] 25)
    have hx1 := heap_alloc_new w1 (.cells #[.int .u32 (X.entry.toNat : Int), .int .u32 (X.flags.toNat : Int), .slice p X.segs.length c] 25)
    have HW := hideE (write_any X (.slice p X.segs.length c) (may_fits f1) (fun _ => by omega) _ (hS1.below b1))
    have HWr : Hid (∀ (v : Value) (W : World), SlS W v X.segs → Calls Try.prog 10 #[.agg #[.int .u32 (X.entry.toNat : Int), .int .u32 (X.flags.toNat : Int), v]] W fun e w' => e = .returned (.tuple #[.string ⟨(El.wr X).toArray⟩, .int .i64 0]) ∧ Below W.heap.size W w') := fun v W h => by
      have := write_any X v (may_fits f1) (fun _ => by omega) W h
      rwa [hv, f1] at this
    generalize El.wr X = S at *
    have HB := hideE hB
    have Hx1 := hideE hx1
    have Hs1 := hideE (hS1.below b1)
    have Hl1 := hideE (hb1.alloc hb1.size (.cells #[.int .u32 (X.entry.toNat : Int), .int .u32 (X.flags.toNat : Int), .slice p X.segs.length c] 25))
    clear hb1 hS1 b1 hx1 hB hv f4 h0 HW hT
    go_wp2_with fail
    refine (HWr.out _ _ Hs1.out).mono ?_
    rintro e w2 ⟨rfl, hb2⟩
    go_wp2_with fail
    refine (parse_any S (by omega) _).mono ?_
    rintro e w3 ⟨v3, he, hS3, hb3⟩
    rw [HB.out.2] at hS3
    rw [HB.out.1, HB.out.2] at he
    obtain ⟨p3, c3, rfl, _⟩ := hS3.len
    unfold prgV at he
    subst he
    have b3 := (Below.refl _ w3).alloc (Nat.le_refl _) (.cells #[.int .u32 (X.entry.toNat : Int), .int .u32 (X.flags.toNat : Int), .slice p3 X.segs.length c3] 25)
    have hC : TwoC w w1.heap.size w3.heap.size X X (.slice p X.segs.length c) (.slice p3 X.segs.length c3) (w3.alloc (.cells #[.int .u32 (X.entry.toNat : Int), .int .u32 (X.flags.toNat : Int), .slice p3 X.segs.length c3] 25)) :=
      ⟨keptN b3 (keptN hb3 (keptN hb2 Hx1.out)), ((Hs1.out.below hb2).below hb3).below b3, heap_alloc_new w3 _, hS3.below b3, by
        have l2 := Hl1.out.trans (hb2.mono Hl1.out.size)
        have l3 := l2.trans (hb3.mono l2.size)
        exact l3.trans (b3.mono l3.size)⟩
    have HC := hideE hC
    clear hb2 hb3 hS3 b3 hC Hs1 Hx1 Hl1
    go_wp2_with fail
    refine (HWr.out _ _ HC.out.ys).mono ?_
    rintro e w4 ⟨rfl, hb4⟩
    have hC4 := HC.out.below hb4
    obtain ⟨⟨a0, a1, a2⟩, _⟩ := three hC4.x
    obtain ⟨⟨d0, d1, d2⟩, _⟩ := three hC4.y
    have HSm := hideE (same_self X (.slice p X.segs.length c) (.slice p3 X.segs.length c3) (by omega) w4 hC4.xs hC4.ys)
    unfold prgV at HSm
    have HC4 := hideE hC4
    clear hC4 hb4 HC
    go_wp2_with fail
    refine HSm.out.mono ?_
    rintro e w6 ⟨rfl, hb6⟩
    have hb := HC4.out.low.trans (hb6.mono HC4.out.low.size)
    go_wp2_with (go_at_call 12; refine (fixed6_any _).mono ?_; rintro e w7 ⟨rfl, hb7⟩)
    go_ret
    exact ⟨rfl, hb.trans (hb7.mono hb.size)⟩
  · rw [prs_bad h0] at he
    rw [prs_bad h0] at hS1
    have hq : (prsE T != 0) = true := bne_iff_ne.2 h0
    generalize prsE T = k at *
    clear h0
    unfold prgV at he
    subst he
    have Hb1 := hideE (hb1.alloc hb1.size (.cells #[.int .u32 0, .int .u32 0, .slice p 0 c] 25))
    clear hb1 hS1 hT
    go_wp2_with (go_at_call 12; refine (fixed6_any _).mono ?_; rintro e w7 ⟨rfl, hb7⟩)
    go_ret
    exact ⟨rfl, Hb1.out.trans (hb7.mono Hb1.out.size)⟩
theorem elfAgain_walk (s : ByteArray) (w : World) (_ : s.size ≤ 9223372036854775807) :
    Calls Try.prog 5 #[.string s] w fun e w' => e = .returned (.bool true) ∧ Below w.heap.size w w' :=
  elfAgain_at s (s.data.toList.take 2000) (cut_takeE s 2000) (by simp; omega) w
end Go.Proofs.Ytegfpbffgnpebaa
