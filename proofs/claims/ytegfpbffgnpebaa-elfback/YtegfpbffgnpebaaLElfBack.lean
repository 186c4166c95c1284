/-
  The walk of ElfBack.
-/
import Derived.Test.YtegfpbffgnpebaaEV
namespace Go.Proofs.Ytegfpbffgnpebaa
open Go.RowKit El Go.Lib
open Classical
set_option linter.unusedSimpArgs false

set_option maxRecDepth 100000 in
set_option maxHeartbeats 8000000 in
theorem elfBack_walk (x : Prg) (u : Value) (w : World) (hS : SlS w u x.segs) (hF : ∀ g ∈ x.segs, Fits g) :
    Calls Try.prog 4 #[prgV x u] w fun e w' => e = .returned (.bool true) ∧ Below w.heap.size w w' := by
  have b0 := (Below.refl _ w).alloc (Nat.le_refl _) (.cells #[.int .u32 (x.entry.toNat : Int), .int .u32 (x.flags.toNat : Int), u] 25)
  have HBd := hideE (bound_any x u _ (hS.below b0))
  have hx0 := heap_alloc_new w (.cells #[.int .u32 (x.entry.toNat : Int), .int .u32 (x.flags.toNat : Int), u] 25)
  have HX0 := hideE hx0
  have HB0 := hideE b0
  obtain ⟨X, hX⟩ : ∃ X, X = cutP x := ⟨_, rfl⟩
  have hXf := cut_fits hF
  obtain ⟨hX1, hX2⟩ := cut_data x
  rw [← hX] at HBd hXf hX1 hX2
  have HXf := hideE hXf
  clear hS hF hX hXf hx0 b0
  unfold prgV at HBd
  unfold prgV
  go_enter Try.func4, Try.ntmps4
  go_wp2_with fail
  refine HBd.out.mono ?_
  rintro e w1 ⟨v, rfl, hown, hb1⟩
  obtain ⟨p, c, rfl⟩ := own_slice' hown
  have hx1 := keptN hb1 HX0.out
  have hL := LX.put (X := X) hx1 hown (by simp) (HB0.out.trans (hb1.mono (by simp)))
  have HL := hideE hL
  clear hown hb1 hL HX0 HB0 HBd
  have hbx := HL.out.box
  have HW := hideE (write_any X _ HXf.out (fun _ => by omega) _ HL.out.s)
  unfold prgV at HW
  go_wp2_with (first
    | (refine wpList_store_row rfl 25 _ _ rfl w.heap.size _ rfl rfl _ _ hx1 (by kernel_rfl) rfl (by kernel_rfl) ?_)
    | (refine wpList_load_row rfl 25 _ rfl w.heap.size rfl _ _ _ _ hbx Try.underlying25 rfl (by kernel_rfl) ?_))
  refine HW.out.mono ?_
  rintro e w3 ⟨rfl, hb3⟩
  have hL3 := HL.out.below hb3
  obtain ⟨⟨a0, a1, a2⟩, _⟩ := three hL3.box
  have HL3 := hideE hL3
  clear hb3 hL3 HW HL hx1 hbx
  by_cases h0 : chk X.segs = 0
  · have hB := back_wr (x := X) h0 (by have := wr_small hX1 hX2; omega)
    have hv : wrV X = El.wr X := by unfold wrV; rw [if_pos h0]
    have hwl := wr_len X
    have hws := wr_small hX1 hX2
    rw [hv, h0]
    generalize El.wr X = S at hB hwl hws ⊢
    have HB := hideE hB
    clear hB hv h0
    go_wp2_with fail
    refine (parse_any S (by omega) _).mono ?_
    rintro e w4 ⟨v4, he, hS4, hb4⟩
    rw [HB.out.2] at hS4
    rw [HB.out.1, HB.out.2] at he
    obtain ⟨p4, c4, rfl, _⟩ := hS4.len
    unfold prgV at he
    subst he
    have hL4 := HL3.out.below hb4
    have b4 := (Below.refl _ w4).alloc (Nat.le_refl _) (.cells #[.int .u32 (X.entry.toNat : Int), .int .u32 (X.flags.toNat : Int), .slice p4 X.segs.length c4] 25)
    have hT : TwoB w w4.heap.size X X (.slice p X.segs.length c) (.slice p4 X.segs.length c4) (w4.alloc (.cells #[.int .u32 (X.entry.toNat : Int), .int .u32 (X.flags.toNat : Int), .slice p4 X.segs.length c4] 25)) := ⟨hL4.alloc _, heap_alloc_new w4 _, hS4.below b4⟩
    have HT := hideE hT
    clear hL4 hb4 hS4 hT b4 a0 a1 a2
    obtain ⟨⟨a0, a1, a2⟩, _⟩ := three HT.out.x.box
    obtain ⟨n, hn⟩ : ∃ n, X.segs.length = n := ⟨_, rfl⟩
    rw [hn] at hX1 hwl
    have hw1 : IntKind.i64.wrap (32 * (n : Int)) = 32 * (n : Int) := wrE (by omega) (by omega)
    have hw2 : IntKind.i64.wrap (52 + 32 * (n : Int)) = 52 + 32 * (n : Int) := wrE (by omega) (by omega)
    rw [hn] at HT a2
    rw [hn]
    have HN := hideE hn
    clear hn
    go_wp2_with fail
    clear a0 a1 a2
    go_loopg [7, 8] n (fun q m i wr => ∃ k : Nat, k + q = n ∧ i = .int .i64 (k : Int) ∧ m = .int .i64 ((52 + 32 * n + (datas (X.segs.take k)).length : Nat) : Int) ∧ TwoB w w4.heap.size X X (.slice p n c) (.slice p4 n c4) wr)
    case atStart => exact ⟨0, by omega, rfl, by simp [datas], HT.out⟩
    case round =>
      clear HT
      obtain ⟨k, hkq, rfl, rfl, hT⟩ := hrel
      obtain ⟨⟨a0, a1, a2⟩, _⟩ := three hT.x.box
      obtain ⟨⟨d0, d1, d2⟩, _⟩ := three hT.y
      cases gk with
      | zero =>
        obtain rfl : k = n := by omega
        have hk : ¬ ((k : Int) < (k : Int)) := by omega
        have hq : ((S.length : Int) == ((52 + 32 * k + (datas (X.segs.take k)).length : Nat) : Int)) = true := by
          rw [List.take_of_length_le (by rw [HN.out]; omega), hwl]; exact beq_self_eq_true _
        have HT := hideE hT
        have HSm := hideE (same_self X (.slice p k c) (.slice p4 k c4) (by rw [HN.out]; omega) wr hT.x.s hT.s)
        unfold prgV at HSm
        generalize 52 + 32 * k + (datas (X.segs.take k)).length = m at hq ⊢
        clear hT hwl
        go_wp2_with fail
        refine HSm.out.mono ?_
        rintro e w6 ⟨rfl, hb6⟩
        have hb := HT.out.x.low.trans (hb6.mono HT.out.x.low.size)
        go_wp2_with (go_at_call 12; refine (fixed6_any _).mono ?_; rintro e w7 ⟨rfl, hb7⟩)
        go_ret
        exact ⟨rfl, hb.trans (hb7.mono hb.size)⟩
      | succ q =>
        have hk : ((k : Int) < (n : Int)) := by omega
        have hk0 : (0 : Int) ≤ (k : Int) := by omega
        have hwk : IntKind.i64.wrap ((k : Int) + 1) = (k : Int) + 1 := wrE (by omega) (by omega)
        obtain ⟨y, hy⟩ : ∃ y, X.segs[k]? = some y := ⟨X.segs[k]'(by rw [HN.out]; omega), List.getElem?_eq_getElem (by rw [HN.out]; omega)⟩
        have hs0 := hT.x.s
        rw [← HN.out] at hs0
        obtain ⟨g, o, rfl⟩ := sls_some hs0 (by rw [HN.out]; omega)
        obtain ⟨hc, _⟩ := slsCells hs0 (by rw [HN.out]; omega)
        obtain ⟨e0, e1, e2, e3⟩ := SlS.at hc k y hy
        have hsum : (datas (X.segs.take (k + 1))).length = (datas (X.segs.take k)).length + y.data.length := by rw [take_snoc hy, datas_snoc, List.length_append]
        have hle := datas_take X.segs (k + 1)
        obtain ⟨m, hm⟩ : ∃ m : Nat, m = 52 + 32 * n + (datas (X.segs.take k)).length := ⟨_, rfl⟩
        have hw3 : IntKind.i64.wrap ((m : Int) + (y.data.length : Int)) = (m : Int) + (y.data.length : Int) := wrE (by omega) (by omega)
        have Hm := hideE hm
        have Hs := hideE hsum
        have HT := hideE hT
        rw [← hm]
        clear hT hy hc hs0 hm hsum
        go_wp2_with fail
        go_roundg q
        case measure => omega
        case rel => exact ⟨k + 1, by omega, by simp, by rw [Hs.out, Hm.out]; simp; omega, HT.out⟩
  · have hv : wrV X = [] := by unfold wrV; rw [if_neg h0]
    have HC := hideE (check_any X (.slice p X.segs.length c) HXf.out w3 HL3.out.s)
    unfold prgV at HC
    rw [hv]
    have hq : (chk X.segs != 0) = true := bne_iff_ne.2 h0
    clear hv h0
    generalize chk X.segs = k at *
    go_wp2_with fail
    refine HC.out.mono ?_
    rintro e w4 ⟨rfl, hb4⟩
    have hb := HL3.out.low.trans (hb4.mono HL3.out.low.size)
    go_wp2_with (go_at_call 12; refine (fixed6_any _).mono ?_; rintro e w7 ⟨rfl, hb7⟩)
    go_ret
    exact ⟨rfl, hb.trans (hb7.mono hb.size)⟩
end Go.Proofs.Ytegfpbffgnpebaa
