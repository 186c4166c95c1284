/-
  The walk of ElfCuts.
-/
import Derived.Test.YtegfpbffgnpebaaEW
namespace Go.Proofs.Ytegfpbffgnpebaa
open Go.RowKit El Go.Lib
open Classical
set_option linter.unusedSimpArgs false

set_option maxRecDepth 100000 in
set_option maxHeartbeats 1000000 in
theorem elfCuts_at (x : Prg) (u : Value) (cut : Int) (t : ByteArray) (T : List UInt8) (hT : t.extract 0 (min (t.size : Int) 100).toNat = ⟨T.toArray⟩) (hTl : T.length ≤ 100) (w : World) (hS : SlS w u x.segs) (hF : ∀ g ∈ x.segs, Fits g) :
    Calls Try.prog 6 #[prgV x u, .int .i64 cut, .string t] w fun e w' => e = .returned (.bool true) ∧ Below w.heap.size w w' := by
  have b0 := (Below.refl _ w).alloc (Nat.le_refl _) (.cells #[.int .u32 (x.entry.toNat : Int), .int .u32 (x.flags.toNat : Int), u] 25)
  have HBd := hideE (bound_any x u _ (hS.below b0))
  have hx0 := heap_alloc_new w (.cells #[.int .u32 (x.entry.toNat : Int), .int .u32 (x.flags.toNat : Int), u] 25)
  have HX0 := hideE hx0
  have HB0 := hideE b0
  obtain ⟨X, hX⟩ : ∃ X, X = cutP x := ⟨_, rfl⟩
  have hXf := cut_fits hF
  obtain ⟨hX1, hX2⟩ := cut_data x
  rw [← hX] at HBd hXf hX1 hX2
  have HXf := hideE hXf
  clear hS hF hX hXf hx0 b0
  unfold prgV at HBd
  unfold prgV
  go_enter Try.func6, Try.ntmps6
  go_wp2_with fail
  refine HBd.out.mono ?_
  rintro e w1 ⟨v, rfl, hown, hb1⟩
  obtain ⟨p, c, rfl⟩ := own_slice' hown
  have hx1 := keptN hb1 HX0.out
  have hL := LX.put (X := X) hx1 hown (by simp) (HB0.out.trans (hb1.mono (by simp)))
  have HL := hideE hL
  clear hown hb1 hL HX0 HB0 HBd
  have hbx := HL.out.box
  have HW := hideE (write_any X _ HXf.out (fun _ => by omega) _ HL.out.s)
  unfold prgV at HW
  go_wp2_with (first
    | (refine wpList_store_row rfl 25 _ _ rfl w.heap.size _ rfl rfl _ _ hx1 (by kernel_rfl) rfl (by kernel_rfl) ?_)
    | (refine wpList_load_row rfl 25 _ rfl w.heap.size rfl _ _ _ _ hbx Try.underlying25 rfl (by kernel_rfl) ?_))
  refine HW.out.mono ?_
  rintro e w3 ⟨rfl, hb3⟩
  have HL3 := hideE (HL.out.below hb3)
  clear hb3 HW HL hx1 hbx HXf
  by_cases h0 : chk X.segs = 0
  · have hwl := wr_len X
    have hws := wr_small hX1 hX2
    have hv : wrV X = El.wr X := by unfold wrV; rw [if_pos h0]
    obtain ⟨d, hd, hde⟩ := mask24 cut
    have hcut := fun k hk => back_cut (x := X) h0 (by omega) k hk
    have hmore := back_more (x := X) h0 (by omega) T
    rw [hv, h0]
    have hne : (El.wr X == []) = false := by
      cases hS : El.wr X with
      | nil => rw [hS] at hwl; simp at hwl; omega
      | cons a r => rfl
    generalize El.wr X = S at *
    have hl52 : 52 ≤ S.length := by omega
    obtain ⟨k, hk⟩ : ∃ k : Nat, k = d % S.length := ⟨_, rfl⟩
    have hkl : k < S.length := by rw [hk]; exact Nat.mod_lt _ (by omega)
    have hrem : (d : Int).tmod (S.length : Int) = (k : Int) := by rw [hk, Int.tmod_eq_emod_of_nonneg (by omega)]; omega
    have hn0 : ¬ ((S.length : Int) = 0) := by omega
    have hk0 : (0 : Int) ≤ (k : Int) := by omega
    have hkS : (k : Int) ≤ (S.length : Int) := by omega
    have hwr : IntKind.i64.wrap (k : Int) = (k : Int) := wrE (by omega) (by omega)
    have HC := hideE (hcut k hkl)
    have HM := hideE hmore
    have hext := ext_to
    have hcat := cat_lists
    clear hcut hmore hk hv h0 hwl
    go_wp2_with fail
    refine (parse_any (S.take k) (by rw [List.length_take]; omega) _).mono ?_
    rintro e w4 ⟨v4, he, hS4, hb4⟩
    obtain ⟨p4, c4, rfl, _⟩ := hS4.len
    rw [HC.out] at he
    unfold prgV at he
    subst he
    have HL4 := hideE ((HL3.out.below hb4).alloc (.cells #[.int .u32 ((prsV (S.take k)).entry.toNat : Int), .int .u32 ((prsV (S.take k)).flags.toNat : Int), .slice p4 (prsV (S.take k)).segs.length c4] 25))
    clear hb4 hS4
    go_wp2_with fail
    refine (parse_any (S ++ T) (by rw [List.length_append]; omega) _).mono ?_
    rintro e w5 ⟨v5, he, hS5, hb5⟩
    rw [HM.out.2] at hS5
    rw [HM.out.1, HM.out.2] at he
    obtain ⟨p5, c5, rfl, _⟩ := hS5.len
    unfold prgV at he
    subst he
    have HL5 := hideE (HL4.out.below hb5)
    clear hb5
    have b5 := (Below.refl _ w5).alloc (Nat.le_refl _) (.cells #[.int .u32 (X.entry.toNat : Int), .int .u32 (X.flags.toNat : Int), .slice p5 X.segs.length c5] 25)
    have hT : TwoB w w5.heap.size X X (.slice p X.segs.length c) (.slice p5 X.segs.length c5) (w5.alloc (.cells #[.int .u32 (X.entry.toNat : Int), .int .u32 (X.flags.toNat : Int), .slice p5 X.segs.length c5] 25)) := ⟨HL5.out.alloc _, heap_alloc_new w5 _, hS5.below b5⟩
    obtain ⟨⟨a0, a1, a2⟩, _⟩ := three hT.x.box
    obtain ⟨⟨d0, d1, d2⟩, _⟩ := three hT.y
    have HSm := hideE (same_self X (.slice p X.segs.length c) (.slice p5 X.segs.length c5) (by omega) _ hT.x.s hT.s)
    unfold prgV at HSm
    have HT := hideE hT
    clear hT hS5 b5
    go_wp2_with fail
    refine HSm.out.mono ?_
    rintro e w6 ⟨rfl, hb6⟩
    have hb := HT.out.x.low.trans (hb6.mono HT.out.x.low.size)
    go_wp2_with (go_at_call 12; refine (fixed6_any _).mono ?_; rintro e w7 ⟨rfl, hb7⟩)
    go_ret
    exact ⟨rfl, hb.trans (hb7.mono hb.size)⟩
  · have hq : (chk X.segs != 0) = true := bne_iff_ne.2 h0
    have hv : wrV X = [] := by unfold wrV; rw [if_neg h0]
    rw [hv]
    clear h0 hv
    generalize chk X.segs = k at *
    go_wp2_with (go_at_call 12; refine (fixed6_any _).mono ?_; rintro e w7 ⟨rfl, hb7⟩)
    go_ret
    exact ⟨rfl, HL3.out.low.trans (hb7.mono HL3.out.low.size)⟩
theorem elfCuts_walk (x : Prg) (u : Value) (cut : Int) (t : ByteArray) (w : World) (hS : SlS w u x.segs) (hF : ∀ g ∈ x.segs, Fits g) (_ : -9223372036854775808 ≤ cut ∧ cut ≤ 9223372036854775807) (_ : t.size ≤ 9223372036854775807) :
    Calls Try.prog 6 #[prgV x u, .int .i64 cut, .string t] w fun e w' => e = .returned (.bool true) ∧ Below w.heap.size w w' :=
  elfCuts_at x u cut t (t.data.toList.take 100) (cut_takeE t 100) (by simp; omega) w hS hF
end Go.Proofs.Ytegfpbffgnpebaa
