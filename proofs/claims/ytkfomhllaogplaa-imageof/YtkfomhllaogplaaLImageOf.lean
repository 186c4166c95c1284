/-
  The walk of ImageOf.
-/
import Derived.Test.YtkfomhllaogplaaGS
import Derived.Test.YtkfomhllaogplaaGN
import Derived.Test.YtkfomhllaogplaaHG
import Derived.Deep.CutRange
namespace Go.Proofs.Ytkfomhllaogplaa
open Go.RowKit El Go.Lib
open Classical
set_option linter.unusedSimpArgs false
set_option linter.unusedVariables false

/-- While the words of the told text are turned to noughts. -/
structure Zr (w0 : World) (b : Nat) (A E : Int) (K n : Nat) (p : Option Addr) (c : Nat) (W : World) : Prop where
  low : Below w0.heap.size w0 W
  ib : W.heap[b]? = some (.cells (imgC A E K (.slice p n c)) 29 (0, 0))
  zw : 0 < n → ∃ g cur, p = some ⟨g, 0, none⟩ ∧ w0.heap.size ≤ g ∧ W.heap[g]? = some (.cells cur 22 (0, 0)) ∧ n ≤ cur.size
theorem Zr.below {w0 W W' : World} {b : Nat} {A E : Int} {K n : Nat} {p : Option Addr} {c : Nat} (h : Zr w0 b A E K n p c W) (hb : Below W.heap.size W W') : Zr w0 b A E K n p c W' :=
  ⟨h.low.trans (hb.mono h.low.size), keptN hb h.ib, fun hn => by obtain ⟨g, cur, h1, h2, h3, h4⟩ := h.zw hn; exact ⟨g, cur, h1, h2, keptN hb h3, h4⟩⟩
theorem Zr.new {w0 W : World} {B : Nat} {A E : Int} {K n : Nat} {p : Option Addr} {c : Nat} {xs : List Value} (hl : Below w0.heap.size w0 W) (ho : W.ownsRow w0.heap.size 22 1 (.slice p n c) n xs) : Zr w0 W.heap.size A E K n p c ((W.alloc (.cells Z4 29)).setRow W.heap.size (imgC A E K (.slice p n c))) := by
  have hb : Below W.heap.size W ((W.alloc (.cells Z4 29)).setRow W.heap.size (imgC A E K (.slice p n c))) := below_setRowE ((Below.refl _ W).alloc (Nat.le_refl _) _) (Nat.le_refl _) _
  refine ⟨hl.trans (hb.mono hl.size), setRow_heap _ _ _ _ _ _ (heap_alloc_new W _), fun hn => ?_⟩
  rcases ho.2 with ⟨e, h0⟩ | ⟨g, cap, cur, e, h2, h3, h4, h5, h6, h7⟩
  · omega
  · injection e with e1 e2 e3
    exact ⟨g, cur, e1, h2, keptN hb h3, by rw [h6]; rw [Nat.mul_one]; omega⟩
theorem Zr.set {w0 W : World} {b : Nat} {A E : Int} {K n g : Nat} {c : Nat} (h : Zr w0 b A E K n (some ⟨g, 0, none⟩) c W) (k : Nat) (hk : k < n) : Zr w0 b A E K n (some ⟨g, 0, none⟩) c (W.setCell ⟨g, k, none⟩ (.int .u32 0)) := by
  obtain ⟨g', cur, e, h2, h3, h4⟩ := h.zw (by omega)
  injection e with e
  injection e with e
  subst e
  have hne : b ≠ g := fun e => by
    have := h.ib; rw [e, h3] at this; injection this with this; injection this with _ this; revert this; decide
  refine ⟨h.low.setCell (by exact h2) _, by rw [set_other _ _ _ _ (by exact hne)]; exact h.ib, fun _ => ⟨g, cur.setIfInBounds k (.int .u32 0), rfl, h2, ?_, by rw [Array.size_setIfInBounds]; exact h4⟩⟩
  simp [World.setCell, Array.getElem?_modify, h3]
theorem Zr.cell {w0 W : World} {b : Nat} {A E : Int} {K n g : Nat} {c : Nat} (h : Zr w0 b A E K n (some ⟨g, 0, none⟩) c W) (k : Nat) (hk : k < n) : ∃ u, W.cell? ⟨g, k, none⟩ = some u ∧ W.frozen? ⟨g, k, none⟩ = false := by
  obtain ⟨g', cur, e, h2, h3, h4⟩ := h.zw (by omega)
  injection e with e
  injection e with e
  subst e
  refine ⟨cur[k]'(by omega), ?_, by simp [World.frozen?, h3]⟩
  rw [Lib.cell_of_heap h3]
  exact Array.getElem?_eq_getElem (by omega)
set_option maxRecDepth 100000 in
set_option maxHeartbeats 8000000 in
theorem imageOf_walk (x : Prg) (u0 : Value) (a : BitVec 32) (w : World) (hS : SlS w u0 x.segs) (hF : ∀ g ∈ x.segs, Fits g) :
    Calls Try.prog 3 #[prgV x u0, .int .u32 (a.toNat : Int)] w fun e w' => e = .returned (.bool true) ∧ Below w.heap.size w w' := by
  have b0 := (Below.refl _ w).alloc (Nat.le_refl _) (.cells #[.int .u32 (x.entry.toNat : Int), .int .u32 (x.flags.toNat : Int), u0] 25)
  have HBd := hideE (bound_any x u0 _ (hS.below b0))
  have hx0 := heap_alloc_new w (.cells #[.int .u32 (x.entry.toNat : Int), .int .u32 (x.flags.toNat : Int), u0] 25)
  have HX0 := hideE hx0
  have HB0 := hideE b0
  obtain ⟨X, hX⟩ : ∃ X, X = cutP x := ⟨_, rfl⟩
  have hXf := cut_fits hF
  have hXd := cut_small x
  have hX1 := (cut_data x).1
  rw [← hX] at HBd hXf hXd hX1
  have HXf := hideE hXf
  have HXd := hideE hXd
  clear hS hF hX hXf hx0 b0 hXd
  unfold prgV at HBd
  unfold prgV
  go_enter Try.func3, Try.ntmps3
  go_wp2_with fail
  refine HBd.out.mono ?_
  rintro e w1 ⟨v, rfl, hown, hb1⟩
  obtain ⟨p, c, rfl⟩ := own_slice' hown
  have hx1 := keptN hb1 HX0.out
  have hL := LX.put (X := X) hx1 hown (by simp) (HB0.out.trans (hb1.mono (by simp)))
  have HL0 := hideE hL
  clear hown hb1 hL HX0 HB0 HBd
  go_upto_region 2 with (first
    | (refine wpList_store_row rfl 25 _ _ rfl w.heap.size _ rfl rfl _ _ hx1 (by kernel_rfl) rfl (by kernel_rfl) ?_))
  refine gen_world (LX w X (.slice p X.segs.length c)) HL0.out ?_
  intro wa hLa
  clear HL0 hx1
  have hd4 : ∀ g ∈ X.segs, g.data.length ≤ 4000000 := fun g hg => Nat.le_trans (HXd.out g hg) (by decide)
  have hok := img_ok (x := X) hd4
  have HOf := hideE (fun (W : World) (hs : SlS W (.slice p X.segs.length c) X.segs) => of_any X (.slice p X.segs.length c) HXf.out hd4 W hs)
  have HRo := hideE (rof_any X (.slice p X.segs.length c) (by omega) hd4 wa hLa.s)
  obtain ⟨J, hJ⟩ : ∃ J, imgOf X = J := ⟨_, rfl⟩
  rw [hJ] at HOf HRo hok
  obtain ⟨f, hf⟩ : ∃ f, ofE X = f := ⟨_, rfl⟩
  rw [hf] at HOf HRo
  have HAt := hideE (fun (v : Value) (W : World) (hs : SlW W v J.words) => at_any J v a hok W hs)
  have HRa := hideE (fun (v : Value) (W : World) (hs : SlW W v J.words) => rat7_any J v a hok W hs)
  have HSm := hideE (fun (v v' : Value) (W : World) (hs : SlW W v J.words) (hs' : SlW W v' J.words) => rsame_any J J v v' (by have := hok.2.2.1; omega) W hs hs')
  have hdec : decide (J = J) = true := decide_eq_true rfl
  simp only [hdec] at HSm
  unfold prgV at HOf HRo
  unfold imgV at HOf HRo HAt HRa HSm
  obtain ⟨A, hA⟩ : ∃ A : Int, (J.base.toNat : Int) = A := ⟨_, rfl⟩
  obtain ⟨E, hE⟩ : ∃ E : Int, (J.entry.toNat : Int) = E := ⟨_, rfl⟩
  obtain ⟨K, hK⟩ : ∃ K, J.seg = K := ⟨_, rfl⟩
  obtain ⟨n, hn⟩ : ∃ n, J.words.length = n := ⟨_, rfl⟩
  obtain ⟨aw, haw⟩ : ∃ t, atW J a = t := ⟨_, rfl⟩
  obtain ⟨ab, hab⟩ : ∃ t, atB J a = t := ⟨_, rfl⟩
  have hn6 : n ≤ 1000000 := by have := hok.2.2.1; omega
  rw [hA, hE, hK, hn] at HOf HRo
  rw [hA, hE, hK, haw, hab] at HAt HRa
  rw [hA, hE, hK] at HSm
  clear hok hdec hA hE hK haw hab hf hJ hd4
  have HN := hideE hn
  clear hn
  have hbx := hLa.box
  have HLa := hideE hLa
  clear hLa
  go_wp2_with (first
    | (refine wpList_load_row rfl 25 _ rfl w.heap.size rfl _ _ _ _ hbx Try.underlying25 rfl (by kernel_rfl) ?_))
  refine HRo.out.mono ?_
  rintro e w2 ⟨uj, rfl, hown2, hb2⟩
  have hlw := slw_of_owns (l := J.words) (by rw [HN.out]; exact hown2)
  obtain ⟨pj, cj, rfl⟩ := own_slice' hown2
  have hL2 := HLa.out.below hb2
  have HI0 := hideE (IL.new (A := A) (E := E) (K := K) hlw hL2.low)
  have HL2 := hideE (hL2.below (below_setRowE (cs := imgC A E K (.slice pj n cj)) ((Below.refl _ w2).alloc (Nat.le_refl _) (.cells Z4 29)) (Nat.le_refl _)))
  clear hL2 hbx hb2 hown2 hlw HLa HRo
  go_upto_region 3 with (first
    | (refine wpList_store_row rfl 29 _ _ rfl (w2.heap.size) _ rfl rfl _ Z4 (heap_alloc_new w2 _) (by kernel_rfl) rfl (by kernel_rfl) ?_))
  refine gen_world (fun W => IL w w2.heap.size A E K (.slice pj n cj) J.words W ∧ LX w X (.slice p X.segs.length c) W) ⟨HI0.out, HL2.out⟩ ?_
  rintro w3 ⟨hI, hLx⟩
  clear HI0 HL2
  generalize w2.heap.size = b5 at *
  have hib := hI.ib
  have HI := hideE hI
  have HLx := hideE hLx
  clear hI hLx
  go_wp2_with (first
    | (refine wpList_load_row rfl 29 _ rfl b5 rfl _ _ _ _ hib Try.underlying29 rfl (by kernel_rfl) ?_))
  refine (HRa.out _ _ HI.out.s).mono ?_
  rintro e w4 ⟨rfl, hb4⟩
  have hI := HI.out.below hb4
  have hLx := HLx.out.below hb4
  clear HRa HI HLx hb4 hib
  have HI := hideE hI
  have HLx := hideE hLx
  clear hI hLx
  go_wp2_with fail
  go_loopg [9] 2 (fun q i wr => ∃ k : Nat, k + q = 2 ∧ i = .int .i64 (k : Int) ∧ IL w b5 A E K (.slice pj n cj) J.words wr ∧ LX w X (.slice p X.segs.length c) wr)
  case atStart => exact ⟨0, by omega, rfl, HI.out, HLx.out⟩
  case round =>
    clear HI HLx
    obtain ⟨k, hkq, rfl, hI, hLx⟩ := hrel
    cases gk with
    | zero =>
      obtain rfl : k = 2 := by omega
      have hb := hLx.low
      clear hI hLx
      go_wp2_with (go_at_call 15; refine (fixed7_any _).mono ?_; rintro e w7 ⟨rfl, hb7⟩)
      go_ret
      exact ⟨rfl, hb.trans (hb7.mono hb.size)⟩
    | succ q =>
      have hk : ((k : Int) < 2) := by omega
      have hk0 : (0 : Int) ≤ (k : Int) := by omega
      have hwk : IntKind.i64.wrap ((k : Int) + 1) = (k : Int) + 1 := wrE (by omega) (by omega)
      have hbx := hLx.box
      have HI := hideE hI
      have HLx := hideE hLx
      clear hI hLx
      go_wp2_with (first
        | (refine wpList_load_row rfl 25 _ rfl w.heap.size rfl _ _ _ _ hbx Try.underlying25 rfl (by kernel_rfl) ?_))
      refine (HOf.out _ HLx.out.s).mono ?_
      rintro e w5 ⟨ui, rfl, hown5, hb5⟩
      have hlw := slw_of_owns (l := J.words) (by rw [HN.out]; exact hown5)
      obtain ⟨pi, ci, rfl⟩ := own_slice' hown5
      have HZ := hideE (Zr.new (B := 0) (A := A) (E := E) (K := K) hb5 hown5)
      have hbs : Below w5.heap.size w5 ((w5.alloc (.cells Z4 29)).setRow w5.heap.size (imgC A E K (.slice pi n ci))) := below_setRowE ((Below.refl _ w5).alloc (Nat.le_refl _) _) (Nat.le_refl _) _
      have HS5 := hideE (hlw.below hbs)
      clear hown5 hb5 hlw hbs hbx
      go_upto_region 8 with (first
        | (refine wpList_store_row rfl 29 _ _ rfl (w5.heap.size) _ rfl rfl _ Z4 (heap_alloc_new w5 _) (by kernel_rfl) rfl (by kernel_rfl) ?_))
      refine gen_world (fun W => Zr wr w5.heap.size A E K n pi ci W ∧ SlW W (.slice pi n ci) J.words) ⟨HZ.out, HS5.out⟩ ?_
      rintro w6 ⟨hZ, hs6⟩
      clear HZ HS5
      generalize w5.heap.size = b10 at *
      have hib := hZ.ib
      have HZ := hideE hZ
      have HS6 := hideE hs6
      clear hZ hs6
      go_wp2_with (first
        | (refine wpList_load_row rfl 29 _ rfl b10 rfl _ _ _ _ hib Try.underlying29 rfl (by kernel_rfl) ?_))
      refine (HAt.out _ _ HS6.out).mono ?_
      rintro e w8 ⟨rfl, hb8⟩
      have hZ := HZ.out.below hb8
      have hs8 := HS6.out.below hb8
      have hI8 := HI.out.below hZ.low
      have hib := hZ.ib
      have hjb := hI8.ib
      have HZ := hideE hZ
      have HS8 := hideE hs8
      have HI8 := hideE hI8
      clear hZ hs8 hI8 hb8 HS6
      go_wp2_with (first
        | (refine wpList_load_rowG (by rfl) 29 _ rfl b10 rfl _ _ _ _ hib Try.underlying29 rfl (by kernel_rfl) ?_)
        | (refine wpList_load_rowG (by rfl) 29 _ rfl b5 rfl _ _ _ _ hjb Try.underlying29 rfl (by kernel_rfl) ?_))
      refine (HSm.out _ _ _ HS8.out HI8.out.s).mono ?_
      rintro e w9 ⟨rfl, hb9⟩
      have HZ9 := hideE (HZ.out.below hb9)
      clear HZ HS8 HI8 hb9 hib hjb
      go_wp2_with fail
      obtain ⟨wo, hwo⟩ : ∃ wo, wo = wr := ⟨_, rfl⟩
      subst hwo
      go_loopg [14] n (fun q' i' wr => ∃ m : Nat, m + q' = n ∧ i' = .int .i64 (m : Int) ∧ Zr wo b10 A E K n pi ci wr)
      case atStart => exact ⟨0, by omega, rfl, HZ9.out⟩
      case round =>
        clear HZ9
        obtain ⟨m, hmq, rfl, hZ⟩ := hrel
        obtain ⟨⟨i0, i1, i2, i3⟩, _⟩ := four hZ.ib
        cases gk with
        | zero =>
          obtain rfl : m = n := by omega
          have hm : ¬ ((m : Int) < (m : Int)) := by omega
          have HZ := hideE hZ
          clear hZ
          go_wp2_with fail
          go_roundg q
          case measure => omega
          case rel => exact ⟨k + 1, by omega, by simp, HI.out.below HZ.out.low, HLx.out.below HZ.out.low⟩
        | succ r =>
          have hm : ((m : Int) < (n : Int)) := by omega
          have hm0 : (0 : Int) ≤ (m : Int) := by omega
          have hwm : IntKind.i64.wrap ((m : Int) + 1) = (m : Int) + 1 := wrE (by omega) (by omega)
          obtain ⟨g, cur, rfl, _⟩ := hZ.zw (by omega)
          obtain ⟨uc, c3, f3⟩ := hZ.cell m (by omega)
          have HZ := hideE (hZ.set m (by omega))
          clear hZ
          go_wp2_with fail
          go_roundg r
          case measure => omega
          case rel => exact ⟨m + 1, by omega, by simp, HZ.out⟩
end Go.Proofs.Ytkfomhllaogplaa
