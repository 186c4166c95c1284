/-
  The walk of ImageAt.
-/
import Derived.Test.YtkfomhllaogplaaGS
import Derived.Deep.CutRange
namespace Go.Proofs.Ytkfomhllaogplaa
open Go.RowKit El Go.Lib
open Classical
set_option linter.unusedSimpArgs false
set_option linter.unusedVariables false

theorem at_below {i : Img} (hi : i.ok) {a : BitVec 32} (h : (a.toNat : Int) = ((i.base.toNat : Int) - 4) % 4294967296) : atB i a = false := by
  obtain ⟨h1, h2, h3, _⟩ := hi
  unfold atB
  exact decide_eq_false fun ⟨_, b, c⟩ => by omega
theorem at_above {i : Img} (hi : i.ok) {a : BitVec 32} (h : (a.toNat : Int) = ((i.base.toNat : Int) + 4 * (i.words.length : Int)) % 4294967296) : atB i a = false := by
  obtain ⟨h1, h2, h3, _⟩ := hi
  unfold atB
  exact decide_eq_false fun ⟨_, b, c⟩ => by omega
theorem at_odd {i : Img} {a : BitVec 32} (h : a.toNat % 4 ≠ 0) : atB i a = false := by
  unfold atB
  exact decide_eq_false fun ⟨b, _⟩ => h b
set_option maxRecDepth 100000 in
set_option maxHeartbeats 8000000 in
theorem imageAt_walk (x : Prg) (u0 : Value) (off : Int) (w : World) (hS : SlS w u0 x.segs) (hF : ∀ g ∈ x.segs, Fits g) (hoff : -9223372036854775808 ≤ off ∧ off ≤ 9223372036854775807) :
    Calls Try.prog 7 #[prgV x u0, .int .i64 off] w fun e w' => e = .returned (.bool true) ∧ Below w.heap.size w w' := by
  obtain ⟨r, hr1, hand⟩ := and1_of off
  have b0 := (Below.refl _ w).alloc (Nat.le_refl _) (.cells #[.int .u32 (x.entry.toNat : Int), .int .u32 (x.flags.toNat : Int), u0] 25)
  have HBd := hideE (bound_any x u0 _ (hS.below b0))
  have HB0 := hideE b0
  obtain ⟨X, hX⟩ : ∃ X, X = cutP x := ⟨_, rfl⟩
  have hXf := cut_fits hF
  have hXd := cut_small' x
  rw [← hX] at HBd hXf hXd
  have HXf := hideE hXf
  have HXd := hideE hXd
  clear hS hF hX hXf b0 hXd hoff
  unfold prgV at HBd
  unfold prgV
  go_enter Try.func7, Try.ntmps7
  go_wp2_with fail
  refine HBd.out.mono ?_
  rintro e w1 ⟨v, rfl, hown, hb1⟩
  have HL := hideE (HB0.out.trans (hb1.mono (by simp)))
  have HOf := hideE (of_any X v HXf.out HXd.out w1 (sls_of_owns hown))
  clear HBd HB0 hb1 hown
  unfold prgV imgV at HOf
  go_wp2_with fail
  refine HOf.out.mono ?_
  rintro e w2 ⟨u, rfl, hown2, hb2⟩
  have hlw := slw_of_owns hown2
  obtain ⟨p, c, rfl⟩ := own_slice' hown2
  have HL2 := hideE (HL.out.trans (hb2.mono HL.out.size))
  clear HOf HL hb2 hown2
  have hok := img_ok (x := X) HXd.out
  by_cases h0 : ofE X = 0
  · obtain ⟨hc, g, hg, hent, hi⟩ := of_zero h0
    have hJe : atB (imgOf X) X.entry = true := by rw [hi]; rw [entry_at g X.entry _ hg.len]; exact hent
    have hJE : (imgOf X).entry = X.entry := by rw [hi]
    rw [h0]
    clear hc hg hent hi h0
    obtain ⟨J, hJ⟩ : ∃ J, imgOf X = J := ⟨_, rfl⟩
    rw [hJ] at hok hJe hJE hlw ⊢
    have HOk := hideE hok
    have HJe := hideE hJe
    rw [← hJE] at HJe
    clear hJ hJe hJE
    obtain ⟨o1, o2, o3, _⟩ := hok
    have hbl := J.base.isLt
    have hel := J.entry.isLt
    obtain ⟨A, hA⟩ : ∃ A : Int, (J.base.toNat : Int) = A := ⟨_, rfl⟩
    obtain ⟨E, hE⟩ : ∃ E : Int, (J.entry.toNat : Int) = E := ⟨_, rfl⟩
    obtain ⟨n, hn⟩ : ∃ n : Nat, J.words.length = n := ⟨_, rfl⟩
    rw [hn] at o2 o3 hlw
    rw [hA, hE, hn]
    have HAt := hideE (fun (z : Int) (h0 : 0 ≤ z) (h1 : z < 4294967296) (b : Bool) (t : Nat) (hb : ∀ a : BitVec 32, (a.toNat : Int) = z → atB J a = b ∧ atW J a = t) (W : World) (hs : SlW W (.slice p n c) J.words) => by
      obtain ⟨a, ha⟩ := addr_of h0 h1
      have h := at_any J (.slice p n c) a HOk.out W hs
      unfold imgV at h
      rw [(hb a ha).1, (hb a ha).2, ha, hA, hE] at h
      exact h : ∀ (z : Int), 0 ≤ z → z < 4294967296 → ∀ (b : Bool) (t : Nat), (∀ a : BitVec 32, (a.toNat : Int) = z → atB J a = b ∧ atW J a = t) → ∀ (W : World), SlW W (.slice p n c) J.words → Calls Try.prog 13 #[.agg #[.int .u32 A, .int .u32 E, .slice p n c, .int .i64 (J.seg : Int)], .int .u32 z] W fun e w' => e = .returned (.tuple #[.int .u32 (t : Int), .bool b]) ∧ Below W.heap.size W w')
    have hA0 : 0 ≤ A ∧ A % 4 = 0 ∧ A + 4 * (n : Int) ≤ 4294967296 ∧ A < 4294967296 := by omega
    obtain ⟨hA0, hA4, hAn, hA1⟩ := hA0
    have hE0 : 0 ≤ E ∧ E < 4294967296 := by omega
    have HA := hideE hA
    have HE := hideE hE
    have HN := hideE hn
    have HI0 := hideE (IL.new (A := A) (E := E) (K := J.seg) hlw HL2.out)
    clear hA hE hn hlw HL2 o1 o2 hbl hel
    obtain ⟨K, hK⟩ : ∃ K, J.seg = K := ⟨_, rfl⟩
    rw [hK] at HAt HI0 ⊢
    clear hK
    go_upto_region 4 with (first
      | (refine wpList_store_row rfl 29 _ _ rfl (w2.heap.size) _ rfl rfl _ Z4 (heap_alloc_new w2 _) (by kernel_rfl) rfl (by kernel_rfl) ?_))
    refine gen_world _ HI0.out ?_
    intro w3 hI
    clear HI0
    generalize w2.heap.size = b5 at *
    go_wp2_with fail
    go_loopg [7] n (fun q i wr => ∃ k : Nat, k + q = n ∧ i = .int .i64 (k : Int) ∧ IL w b5 A E K (.slice p n c) J.words wr)
    case atStart => exact ⟨0, by omega, rfl, hI⟩
    case round =>
      clear hI
      obtain ⟨k, hkq, rfl, hI⟩ := hrel
      obtain ⟨⟨i0, i1, i2, i3⟩, _⟩ := four hI.ib
      cases gk with
      | zero =>
        obtain rfl : k = n := by omega
        have hk : ¬ ((k : Int) < (k : Int)) := by omega
        obtain ⟨zb, hzb⟩ : ∃ z : Int, (A - 4) % 4294967296 = z := ⟨_, rfl⟩
        have hzb' : IntKind.u32.wrap (A - 4) = zb := hzb
        obtain ⟨zc, hzc⟩ : ∃ z : Int, (A + 4 * (k : Int)) % 4294967296 = z := ⟨_, rfl⟩
        have hzc' : IntKind.u32.wrap (A + 4 * (k : Int)) = zc := hzc
        have hm1 : IntKind.i64.wrap (4 * (k : Int)) = 4 * (k : Int) := wrE (by omega) (by omega)
        have hm2 : IntKind.u32.wrap (4 * (k : Int)) = 4 * (k : Int) := by show (4 * (k : Int)) % 4294967296 = _; omega
        have hm2' : (4 * (k : Int)) % 4294967296 = 4 * (k : Int) := by omega
        have C1 := hideE (HAt.out zb (by omega) (by omega) false 0 (fun a ha => by
          have hb := at_below HOk.out (a := a) (by rw [ha, HA.out]; exact hzb.symm)
          exact ⟨hb, at_no hb⟩))
        have C2 := hideE (HAt.out zc (by omega) (by omega) false 0 (fun a ha => by
          have hb := at_above HOk.out (a := a) (by rw [ha, HA.out, HN.out]; exact hzc.symm)
          exact ⟨hb, at_no hb⟩))
        have C3 := hideE (HAt.out E hE0.1 hE0.2 true (atW J J.entry) (fun a ha => by
          obtain rfl : a = J.entry := BitVec.eq_of_toNat_eq (by have := HE.out; omega)
          exact ⟨HJe.out, rfl⟩))
        have hib := hI.ib
        have HII := hideE hI
        clear hI HAt
        go_wp2_with (first
          | (refine wpList_load_row rfl 29 _ rfl b5 rfl _ _ _ _ hib Try.underlying29 rfl (by kernel_rfl) ?_))
        refine (C1.out _ HII.out.s).mono ?_
        rintro e w4 ⟨rfl, hb4⟩
        have hI4 := HII.out.below hb4
        have hib := hI4.ib
        obtain ⟨⟨i0, i1, i2, i3⟩, _⟩ := four hI4.ib
        have HII := hideE hI4
        clear hI4 hb4 C1
        go_wp2_with (first
          | (refine wpList_load_row rfl 29 _ rfl b5 rfl _ _ _ _ hib Try.underlying29 rfl (by kernel_rfl) ?_))
        refine (C2.out _ HII.out.s).mono ?_
        rintro e w5 ⟨rfl, hb5⟩
        have hI5 := HII.out.below hb5
        have hib := hI5.ib
        obtain ⟨⟨i0, i1, i2, i3⟩, _⟩ := four hI5.ib
        have HII := hideE hI5
        clear hI5 hb5 C2
        go_wp2_with (first
          | (refine wpList_load_row rfl 29 _ rfl b5 rfl _ _ _ _ hib Try.underlying29 rfl (by kernel_rfl) ?_))
        refine (C3.out _ HII.out.s).mono ?_
        rintro e w6 ⟨rfl, hb6⟩
        have hI6 := HII.out.below hb6
        obtain ⟨⟨i0, i1, i2, i3⟩, _⟩ := four hI6.ib
        have hb := hI6.low
        clear hI6 hb6 C3
        go_wp2_with (go_at_call 15; refine (fixed7_any _).mono ?_; rintro e w7 ⟨rfl, hb7⟩)
        go_ret
        exact ⟨rfl, hb.trans (hb7.mono hb.size)⟩
      | succ q =>
        have hk : ((k : Int) < (n : Int)) := by omega
        have hk0 : (0 : Int) ≤ (k : Int) := by omega
        have hwk : IntKind.i64.wrap ((k : Int) + 1) = (k : Int) + 1 := wrE (by omega) (by omega)
        obtain ⟨t, ht⟩ : ∃ t, J.words[k]? = some t := ⟨J.words[k]'(by rw [HN.out]; omega), List.getElem?_eq_getElem (by rw [HN.out]; omega)⟩
        obtain ⟨zb, hzb⟩ : ∃ z : Int, A + 4 * (k : Int) = z := ⟨_, rfl⟩
        obtain ⟨zc, hzc⟩ : ∃ z : Int, A + (4 * (k : Int) + 1 + (r : Int)) = z := ⟨_, rfl⟩
        have hb1 : IntKind.u32.wrap (A + 4 * (k : Int)) = zb := by show (A + 4 * (k : Int)) % 4294967296 = _; omega
        have hb1' : (A + 4 * (k : Int)) % 4294967296 = zb := hb1
        have hc1 : IntKind.u32.wrap (A + (4 * (k : Int) + 1 + (r : Int))) = zc := by show (A + (4 * (k : Int) + 1 + (r : Int))) % 4294967296 = _; omega
        have hc1' : (A + (4 * (k : Int) + 1 + (r : Int))) % 4294967296 = zc := hc1
        have hm1 : IntKind.i64.wrap (4 * (k : Int)) = 4 * (k : Int) := wrE (by omega) (by omega)
        have hm2 : IntKind.u32.wrap (4 * (k : Int)) = 4 * (k : Int) := by show (4 * (k : Int)) % 4294967296 = _; omega
        have hm2' : (4 * (k : Int)) % 4294967296 = 4 * (k : Int) := by omega
        have hm3 : IntKind.i64.wrap (4 * (k : Int) + 1) = 4 * (k : Int) + 1 := wrE (by omega) (by omega)
        have hm4 : IntKind.i64.wrap (4 * (k : Int) + 1 + (r : Int)) = 4 * (k : Int) + 1 + (r : Int) := wrE (by omega) (by omega)
        have hm5 : IntKind.u32.wrap (4 * (k : Int) + 1 + (r : Int)) = 4 * (k : Int) + 1 + (r : Int) := by show (4 * (k : Int) + 1 + (r : Int)) % 4294967296 = _; omega
        have hm5' : (4 * (k : Int) + 1 + (r : Int)) % 4294967296 = 4 * (k : Int) + 1 + (r : Int) := by omega
        have C1 := hideE (HAt.out zb (by omega) (by omega) true t (fun a ha => hit_yes HOk.out (k := k) ⟨by omega, by rw [ha, HA.out]; exact hzb.symm⟩ ht))
        have C2 := hideE (HAt.out zc (by omega) (by omega) false 0 (fun a ha => by
          have hb := at_odd (i := J) (a := a) (by omega)
          exact ⟨hb, at_no hb⟩))
        obtain ⟨gw, ow, rfl, c3⟩ := hI.s.at ht
        have hib := hI.ib
        have HII := hideE hI
        have Ht := hideE ht
        clear hI ht hzb hzc
        go_wp2_with (first
          | (refine wpList_load_row rfl 29 _ rfl b5 rfl _ _ _ _ hib Try.underlying29 rfl (by kernel_rfl) ?_))
        refine (C1.out _ HII.out.s).mono ?_
        rintro e w4 ⟨rfl, hb4⟩
        have hI4 := HII.out.below hb4
        have hib := hI4.ib
        obtain ⟨⟨i0, i1, i2, i3⟩, _⟩ := four hI4.ib
        have HII := hideE hI4
        clear hI4 hb4 C1 c3
        go_wp2_with (first
          | (refine wpList_load_row rfl 29 _ rfl b5 rfl _ _ _ _ hib Try.underlying29 rfl (by kernel_rfl) ?_))
        refine (C2.out _ HII.out.s).mono ?_
        rintro e w5 ⟨rfl, hb5⟩
        have hI5 := HII.out.below hb5
        obtain ⟨⟨i0, i1, i2, i3⟩, _⟩ := four hI5.ib
        obtain ⟨gw', ow', e, c3⟩ := hI5.s.at Ht.out
        injection e with e
        injection e with e1 e2
        subst e1 e2
        have HII := hideE hI5
        clear hI5 hb5 C2
        go_wp2_with fail
        go_roundg q
        case measure => omega
        case rel => exact ⟨k + 1, by omega, by simp, HII.out⟩
  · have hq : (ofE X != 0) = true := bne_iff_ne.2 h0
    have HN := hideE (of_not h0)
    rw [HN.out]
    have hb3 : ∀ cs, Below w.heap.size w ((w2.alloc (.cells Z4 29)).setRow w2.heap.size cs) := fun cs => below_setRowE (HL2.out.alloc HL2.out.size _) HL2.out.size _
    have HB3 := hideE hb3
    clear hok hlw h0 HN hb3
    generalize ofE X = k at *
    go_upto_region 2 with (first
      | (refine wpList_store_row rfl 29 _ _ rfl (w2.heap.size) _ rfl rfl _ Z4 (heap_alloc_new w2 _) (by kernel_rfl) rfl (by kernel_rfl) ?_))
    refine gen_world (fun W => Below w.heap.size w W) (HB3.out _) ?_
    intro w3 hb
    clear HB3
    go_wp2_with (go_at_call 15; refine (fixed7_any _).mono ?_; rintro e w7 ⟨rfl, hb7⟩)
    go_ret
    exact ⟨rfl, hb.trans (hb7.mono hb.size)⟩
end Go.Proofs.Ytkfomhllaogplaa
