/-
  The walk of ImageSegs.
-/
import Derived.Test.YtkfomhllaogplaaGS
import Derived.Test.YtkfomhllaogplaaGU
import Derived.Deep.CutRange
namespace Go.Proofs.Ytkfomhllaogplaa
open Go.RowKit El Go.Lib
open Classical
set_option linter.unusedSimpArgs false
set_option linter.unusedVariables false

theorem load4_any {pb bm : Nat} {l : Mm.Cs} {a t : Int} (w : World) (h : MemAt w pb bm l) (ha : 0 ≤ a ∧ a < 4294967296) (ht : Mm.num l a 4 = t) :
    Calls Try.prog 25 #[.pointer (some ⟨pb, 0, none⟩), .int .u32 a, .int .i64 4] w fun e w' => e = .returned (.tuple #[.int .u32 t, .int .i64 0]) ∧ w' = w := by
  have h1 := load_any (n := 4) w h ha (by omega)
  rw [show (4 : Int).toNat = 4 from rfl, ht] at h1
  exact h1
set_option maxRecDepth 100000 in
set_option maxHeartbeats 8000000 in
theorem imageSegs_walk (x : Prg) (u0 : Value) (w : World) (hS : SlS w u0 x.segs) (hF : ∀ g ∈ x.segs, Fits g) :
    Calls Try.prog 8 #[prgV x u0] w fun e w' => e = .returned (.bool true) ∧ Below w.heap.size w w' := by
  have b0 := (Below.refl _ w).alloc (Nat.le_refl _) (.cells #[.int .u32 (x.entry.toNat : Int), .int .u32 (x.flags.toNat : Int), u0] 25)
  have HBd := hideE (bound_any x u0 _ (hS.below b0))
  have hx0 := heap_alloc_new w (.cells #[.int .u32 (x.entry.toNat : Int), .int .u32 (x.flags.toNat : Int), u0] 25)
  have HX0 := hideE hx0
  have HB0 := hideE b0
  obtain ⟨X, hX⟩ : ∃ X, X = cutP x := ⟨_, rfl⟩
  have hXf := cut_fits hF
  have hXd := cut_small x
  have hX1 := (cut_data x).1
  rw [← hX] at HBd hXf hXd hX1
  have HXf := hideE hXf
  have HXd := hideE hXd
  clear hS hF hX hXf hx0 b0 hXd
  unfold prgV at HBd
  unfold prgV
  go_enter Try.func8, Try.ntmps8
  go_wp2_with fail
  refine HBd.out.mono ?_
  rintro e w1 ⟨v, rfl, hown, hb1⟩
  obtain ⟨p, c, rfl⟩ := own_slice' hown
  have hx1 := keptN hb1 HX0.out
  have hL := LX.put (X := X) hx1 hown (by simp) (HB0.out.trans (hb1.mono (by simp)))
  have HL0 := hideE hL
  clear hown hb1 hL HX0 HB0 HBd
  go_upto_region 2 with (first
    | (refine wpList_store_row rfl 25 _ _ rfl w.heap.size _ rfl rfl _ _ hx1 (by kernel_rfl) rfl (by kernel_rfl) ?_))
  refine gen_world (LX w X (.slice p X.segs.length c)) HL0.out ?_
  intro wa hLa
  clear HL0 hx1
  have hd4 : ∀ g ∈ X.segs, g.data.length ≤ 4000000 := fun g hg => Nat.le_trans (HXd.out g hg) (by decide)
  have hd6 : ∀ g ∈ X.segs, g.data.length ≤ 65536 := fun g hg => Nat.le_trans (HXd.out g hg) (by decide)
  have HOk := hideE (img_ok (x := X) hd4)
  have HOf := hideE (of_any X (.slice p X.segs.length c) HXf.out hd4 wa hLa.s)
  have HBad := hideE (fun (h0 : chk X.segs ≠ 0) (W : World) (hs : SlS W (.slice p X.segs.length c) X.segs) => load_bad X (.slice p X.segs.length c) HXf.out h0 W hs)
  have HOkl := hideE (fun (h0 : chk X.segs = 0) (W : World) (hs : SlS W (.slice p X.segs.length c) X.segs) => load_ok X (.slice p X.segs.length c) HXf.out hd6 h0 W hs)
  have HD6 := hideE hd6
  unfold prgV at HOf HBad HOkl
  unfold imgV at HOf
  clear hd4 hd6
  obtain ⟨J, hJ⟩ : ∃ J, imgOf X = J := ⟨_, rfl⟩
  rw [hJ] at HOf HOk
  have HJ := hideE hJ
  obtain ⟨A, hA⟩ : ∃ A : Int, (J.base.toNat : Int) = A := ⟨_, rfl⟩
  obtain ⟨E, hE⟩ : ∃ E : Int, (J.entry.toNat : Int) = E := ⟨_, rfl⟩
  obtain ⟨K, hK⟩ : ∃ K, J.seg = K := ⟨_, rfl⟩
  obtain ⟨n, hn⟩ : ∃ n, J.words.length = n := ⟨_, rfl⟩
  rw [hA, hE, hK, hn] at HOf
  have HA := hideE hA
  have HK := hideE hK
  have HN := hideE hn
  clear hA hE hK hn hJ
  have hbx := hLa.box
  have HLa := hideE hLa
  clear hLa
  go_wp2_with (first
    | (refine wpList_load_row rfl 25 _ rfl w.heap.size rfl _ _ _ _ hbx Try.underlying25 rfl (by kernel_rfl) ?_))
  refine HOf.out.mono ?_
  rintro e w2 ⟨u, rfl, hown2, hb2⟩
  have hlw := slw_of_owns (l := J.words) (by rw [HN.out]; exact hown2)
  obtain ⟨pj, cj, rfl⟩ := own_slice' hown2
  have hL2 := HLa.out.below hb2
  have HI0 := hideE (IL.new (A := A) (E := E) (K := K) hlw hL2.low)
  have HL2 := hideE (hL2.below (below_setRowE (cs := imgC A E K (.slice pj n cj)) ((Below.refl _ w2).alloc (Nat.le_refl _) (.cells Z4 29)) (Nat.le_refl _)))
  clear hL2 hbx hb2 hown2 hlw HLa HOf
  go_upto_region 3 with (first
    | (refine wpList_store_row rfl 29 _ _ rfl (w2.heap.size) _ rfl rfl _ Z4 (heap_alloc_new w2 _) (by kernel_rfl) rfl (by kernel_rfl) ?_))
  refine gen_world (fun W => IL w w2.heap.size A E K (.slice pj n cj) J.words W ∧ LX w X (.slice p X.segs.length c) W) ⟨HI0.out, HL2.out⟩ ?_
  rintro w3 ⟨hI, hLx⟩
  clear HI0 HL2
  generalize w2.heap.size = b5 at *
  have hbx := hLx.box
  have HI := hideE hI
  have HLx := hideE hLx
  clear hI hLx
  go_wp2_with (first
    | (refine wpList_load_row rfl 25 _ rfl w.heap.size rfl _ _ _ _ hbx Try.underlying25 rfl (by kernel_rfl) ?_))
  by_cases h0 : chk X.segs = 0
  · refine (HOkl.out h0 _ HLx.out.s).mono ?_
    rintro e w4 ⟨pb, bm, rfl, hm, _, _, hb4⟩
    have HI4 := hideE (HI.out.below hb4)
    have HL4 := hideE (HLx.out.below hb4)
    have HM := hideE hm
    clear hm hb4 HI HLx HBad HOkl hbx
    have HC := hideE h0
    clear h0
    by_cases hf : ofE X = 0
    · obtain ⟨_, g, hg, _, hi⟩ := of_zero hf
      rw [HJ.out] at hi
      have hKt : K = txt X.segs := by rw [← HK.out, hi]
      have hAg : A = (g.addr.toNat : Int) := by rw [← HA.out, hi]
      have hwg : J.words = words g.data := by rw [hi]
      have hKl := (List.getElem?_eq_some_iff.1 hg.get).1
      rw [← hKt] at hKl
      have HNum := hideE (fun (k t : Nat) (ht : J.words[k]? = some t) => num_text HC.out HD6.out hg.get k t (by rw [← hwg]; exact ht))
      have HRun := hideE (show ∀ (j : Nat) (h : Seg), X.segs[j]? = some h → (h.flags % 2 = 1 ↔ j = K) from fun j h hj => ⟨fun e => by rw [hKt]; exact hg.once j h hj e, fun e => by
        subst e; rw [hKt, hg.get] at hj; injection hj with hj; subst hj; exact hg.run⟩)
      have hok := HOk.out
      obtain ⟨o1, o2, o3, _⟩ := hok
      rw [hf]
      have hAA : 0 ≤ A ∧ A + 4 * (n : Int) ≤ 4294967296 := by have := J.base.isLt; have := HA.out; have := HN.out; omega
      have hn6 : n ≤ 1000000 := by have := HN.out; omega
      have HMay := hideE (chk_zero HC.out).2.1
      have HAg := hideE hAg
      clear hg hi hf hwg o1 o2 o3 HC HJ hKt hAg
      obtain ⟨⟨i0, i1, i2, i3⟩, _⟩ := four HI4.out.ib
      obtain ⟨⟨a0, a1, a2⟩, _⟩ := three HL4.out.box
      obtain ⟨N, hN⟩ : ∃ N, X.segs.length = N := ⟨_, rfl⟩
      rw [hN] at a2 hKl hX1 HL4
      rw [hN]
      have HNN := hideE hN
      clear hN
      have hK1 : decide ((N : Int) ≤ (K : Int)) = false := decide_eq_false (by omega)
      have hK2 : decide (N ≤ K) = false := decide_eq_false (by omega)
      have hK0 : decide ((K : Int) < 0) = false := decide_eq_false (by omega)
      go_wp2_with fail
      clear i0 i1 i2 i3 a0 a1 a2
      go_loopg [7] n (fun q i wr => ∃ k : Nat, k + q = n ∧ i = .int .i64 (k : Int) ∧ MemAt wr pb bm (memOf X.segs) ∧ LX w X (.slice p N c) wr ∧ IL w b5 A E K (.slice pj n cj) J.words wr)
      case atStart => exact ⟨0, by omega, rfl, HM.out, HL4.out, HI4.out⟩
      case round =>
        clear HM HL4 HI4
        obtain ⟨k, hkq, rfl, hm, hL, hI⟩ := hrel
        have HM := hideE hm
        have HL4 := hideE hL
        have HI4 := hideE hI
        clear hm hL hI
        obtain ⟨⟨i0, i1, i2, i3⟩, _⟩ := four HI4.out.ib
        obtain ⟨⟨a0, a1, a2⟩, _⟩ := three HL4.out.box
        cases gk with
        | zero =>
          obtain rfl : k = n := by omega
          have hk : ¬ ((k : Int) < (k : Int)) := by omega
          go_wp2_with fail
          go_loopg [10] N (fun q' i' wr' => ∃ j : Nat, j + q' = N ∧ i' = .int .i64 (j : Int) ∧ LX w X (.slice p N c) wr' ∧ IL w b5 A E K (.slice pj k cj) J.words wr')
          case atStart => exact ⟨0, by omega, rfl, HL4.out, HI4.out⟩
          case round =>
            clear i0 i1 i2 i3 a0 a1 a2
            obtain ⟨j, hjq, rfl, hLj, hIj⟩ := hrel
            obtain ⟨⟨i0, i1, i2, i3⟩, _⟩ := four hIj.ib
            obtain ⟨⟨a0, a1, a2⟩, _⟩ := three hLj.box
            cases gk with
            | zero =>
              obtain rfl : j = N := by omega
              have hj : ¬ ((j : Int) < (j : Int)) := by omega
              have hb := hLj.low
              clear hLj hIj
              go_wp2_with (go_at_call 15; refine (fixed7_any _).mono ?_; rintro e w7 ⟨rfl, hb7⟩)
              go_ret
              exact ⟨rfl, hb.trans (hb7.mono hb.size)⟩
            | succ q' =>
              have hj : ((j : Int) < (N : Int)) := by omega
              have hj0 : (0 : Int) ≤ (j : Int) := by omega
              have hwj : IntKind.i64.wrap ((j : Int) + 1) = (j : Int) + 1 := wrE (by omega) (by omega)
              obtain ⟨y, hy⟩ : ∃ y, X.segs[j]? = some y := ⟨X.segs[j]'(by rw [HNN.out]; omega), List.getElem?_eq_getElem (by rw [HNN.out]; omega)⟩
              have hs0 := hLj.s
              rw [← HNN.out] at hs0
              obtain ⟨gg, oo, rfl⟩ := sls_some hs0 (by rw [HNN.out]; omega)
              obtain ⟨hcs, _⟩ := slsCells hs0 (by rw [HNN.out]; omega)
              obtain ⟨e0, e1, e2, e3⟩ := SlS.at hcs j y hy
              have hym := HMay.out y (List.mem_of_getElem? hy)
              have hand := and_1 y.flags hym.2.2.2.1 hym.2.2.2.2.1
              have hrun := HRun.out j y hy
              have HLj := hideE hLj
              have HIj := hideE hIj
              clear hLj hIj hs0 hcs hy hym
              by_cases hjK : j = K
              · rw [hrun.2 hjK] at hand
                have hq1 : ((j : Int) == (K : Int)) = true := by rw [hjK]; exact beq_self_eq_true _
                clear hrun hjK
                go_wp2_with fail
                go_quiet (fail)
                go_wp2_with fail
                go_roundg q'
                case measure => omega
                case rel => exact ⟨j + 1, by omega, by simp, HLj.out.below (drew_low _ _ _), HIj.out.below (drew_low _ _ _)⟩
              · rw [show y.flags % 2 = 0 by have : ¬ y.flags % 2 = 1 := fun e => hjK (hrun.1 e); omega] at hand
                have hq1 : ((j : Int) == (K : Int)) = false := by rw [beq_eq_false_iff_ne]; omega
                clear hrun hjK
                go_wp2_with fail
                go_quiet (fail)
                go_wp2_with fail
                go_roundg q'
                case measure => omega
                case rel => exact ⟨j + 1, by omega, by simp, HLj.out.below (drew_low _ _ _), HIj.out.below (drew_low _ _ _)⟩
        | succ q =>
          have hk : ((k : Int) < (n : Int)) := by omega
          have hk0 : (0 : Int) ≤ (k : Int) := by omega
          have hwk : IntKind.i64.wrap ((k : Int) + 1) = (k : Int) + 1 := wrE (by omega) (by omega)
          obtain ⟨t, ht⟩ : ∃ t, J.words[k]? = some t := ⟨J.words[k]'(by rw [HN.out]; omega), List.getElem?_eq_getElem (by rw [HN.out]; omega)⟩
          obtain ⟨zb, hzb⟩ : ∃ z : Int, A + 4 * (k : Int) = z := ⟨_, rfl⟩
          have hb1 : IntKind.u32.wrap (A + 4 * (k : Int)) = zb := by show (A + 4 * (k : Int)) % 4294967296 = _; omega
          have hb1' : (A + 4 * (k : Int)) % 4294967296 = zb := hb1
          have hm1 : IntKind.i64.wrap (4 * (k : Int)) = 4 * (k : Int) := wrE (by omega) (by omega)
          have hm2 : IntKind.u32.wrap (4 * (k : Int)) = 4 * (k : Int) := by show (4 * (k : Int)) % 4294967296 = _; omega
          have hm2' : (4 * (k : Int)) % 4294967296 = 4 * (k : Int) := by omega
          have hnum := HNum.out k t ht
          rw [← HAg.out, hzb] at hnum
          have C1 := hideE (load4_any _ HM.out (a := zb) (by omega) hnum)
          obtain ⟨gw, ow, rfl, c3⟩ := HI4.out.s.at ht
          clear ht hzb hnum
          go_wp2_with fail
          refine C1.out.mono ?_
          rintro e w5 ⟨rfl, rfl⟩
          go_wp2_with fail
          go_roundg q
          case measure => omega
          case rel => exact ⟨k + 1, by omega, by simp, HM.out, HL4.out, HI4.out⟩
    · have hq : (ofE X != 0) = true := bne_iff_ne.2 hf
      have hb := HL4.out.low
      clear hf HM HC HD6 HJ
      generalize ofE X = f at *
      go_wp2_with (go_at_call 15; refine (fixed7_any _).mono ?_; rintro e w7 ⟨rfl, hb7⟩)
      go_ret
      exact ⟨rfl, hb.trans (hb7.mono hb.size)⟩
  · refine (HBad.out h0 _ HLx.out.s).mono ?_
    rintro e w4 ⟨rfl, hb4⟩
    have hb := (HLx.out.below hb4).low
    have hq : (ofE X != 0) = true := bne_iff_ne.2 (by rw [of_chk h0]; exact h0)
    clear HI HLx hb4 HBad HOkl hbx h0 HJ
    generalize ofE X = f at *
    generalize chk X.segs = f' at *
    go_wp2_with (go_at_call 15; refine (fixed7_any _).mono ?_; rintro e w7 ⟨rfl, hb7⟩)
    go_ret
    exact ⟨rfl, hb.trans (hb7.mono hb.size)⟩
end Go.Proofs.Ytkfomhllaogplaa
