/-
  The walk of ElfOrder.
-/
import Derived.Test.YtegfpbffgnpebaaEW
import Derived.Deep.Cut
namespace Go.Proofs.Ytegfpbffgnpebaa
open Go.RowKit El Go.Lib
open Classical
set_option linter.unusedSimpArgs false

theorem TwoB.drew {w W : World} {b : Nat} {X Y : Prg} {v u : Value} (h : TwoB w b X Y v u W) : TwoB w b X Y v u W.drew := h.below (Below.refl _ W).drew
/-- While the segments are turned round: both programs' boxes. -/
structure OBox (w : World) (b : Nat) (X : Prg) (v : Value) (W : World) : Prop where
  x : LX w X v W
  y : ∃ u, W.heap[b]? = some (.cells #[.int .u32 (X.entry.toNat : Int), .int .u32 (X.flags.toNat : Int), u] 25 (0, 0))
structure OrdW (w : World) (b : Nat) (X : Prg) (v u : Value) (l : List Seg) (W : World) : Prop where
  x : LX w X v W
  y : W.heap[b]? = some (.cells #[.int .u32 (X.entry.toNat : Int), .int .u32 (X.flags.toNat : Int), u] 25 (0, 0))
  own : W.ownsRow (b + 1) 36 4 u l.length (csS l)
  sep : ∀ q n c, v = .slice (some q) n c → 0 < n → q.block < b
  bw : w.heap.size < b
theorem OrdW.below {w W W' : World} {b : Nat} {X : Prg} {v u : Value} {l : List Seg} (h : OrdW w b X v u l W) (hb : Below W.heap.size W W') : OrdW w b X v u l W' := ⟨h.x.below hb, keptN hb h.y, ownE_below h.own hb, h.sep, h.bw⟩
theorem OrdW.alloc {w W : World} {b : Nat} {X : Prg} {v u : Value} {l : List Seg} (h : OrdW w b X v u l W) (o : Obj) : OrdW w b X v u l (W.alloc o) := h.below ((Below.refl _ W).alloc (Nat.le_refl _) o)
theorem OrdW.drew {w W : World} {b : Nat} {X : Prg} {v u : Value} {l : List Seg} (h : OrdW w b X v u l W) : OrdW w b X v u l W.drew := h.below (Below.refl _ W).drew
theorem OrdW.obox {w W : World} {b : Nat} {X : Prg} {v u : Value} {l : List Seg} (h : OrdW w b X v u l W) : OBox w b X v W := ⟨h.x, u, h.y⟩
theorem OrdW.lt {w W : World} {b : Nat} {X : Prg} {v u : Value} {l : List Seg} (h : OrdW w b X v u l W) : b < W.heap.size := (Array.getElem?_eq_some_iff.1 h.y).1
theorem LX.keep {w W W' : World} {X : Prg} {v : Value} {b : Nat} (h : LX w X v W) (hb : Below b W W') (hw : w.heap.size < b) (hs : ∀ q n c, v = .slice (some q) n c → 0 < n → q.block < b) : LX w X v W' := by
  refine ⟨keptE hb hw h.box, ?_, h.low.trans (hb.mono (by omega))⟩
  rcases h.s with h0 | ⟨g, o, cap, e, hl, hg, hc⟩
  · exact .inl h0
  · by_cases hz : X.segs.length = 0
    · exact .inl ⟨_, _, by rw [e, hz], List.eq_nil_of_length_eq_zero hz⟩
    · have hgb : g < b := hs _ _ _ e (by omega)
      exact .inr ⟨g, o, cap, e, hl, Nat.lt_of_lt_of_le hg hb.size, fun j hj => by rw [hb.cell hgb]; exact hc j hj⟩
theorem OrdW.grown {w W W' : World} {b : Nat} {X : Prg} {v u : Value} {l : List Seg} (h : OrdW w b X v u l W) (hg : W.grownBy W' u.ownBlock) :
    (LX w X v W' ∧ ∀ q n c, v = .slice (some q) n c → 0 < n → q.block < b) ∧ W'.heap[b]? = some (.cells #[.int .u32 (X.entry.toNat : Int), .int .u32 (X.flags.toNat : Int), u] 25 (0, 0)) := by
  have hB : Below (b + 1) W W' := (Below.refl _ W).grown hg (by have := h.lt; omega) (fun k e => (h.own.lt k e).1)
  exact ⟨⟨h.x.keep (hB.mono (by omega)) h.bw h.sep, h.sep⟩, keptE hB (by omega) h.y⟩
theorem OrdW.put {w W : World} {b : Nat} {X : Prg} {v u u' : Value} {l : List Seg} (hbw : w.heap.size < b) (hx : LX w X v W ∧ ∀ q n c, v = .slice (some q) n c → 0 < n → q.block < b) (hy : W.heap[b]? = some (.cells #[.int .u32 (X.entry.toNat : Int), .int .u32 (X.flags.toNat : Int), u] 25 (0, 0)))
    (ho : W.ownsRow (b + 1) 36 4 u' l.length (csS l)) : OrdW w b X v u' l (W.setCell ⟨b, 2, none⟩ u') :=
  ⟨hx.1.keep ((Below.refl b W).setCell (by simp) _) hbw hx.2, by simp [World.setCell, Array.getElem?_modify, hy], own_set ho hy (by decide) _, hx.2, hbw⟩
theorem rev_snoc (l : List Seg) (k j : Nat) (g : Seg) (h : l[j]? = some g) (hj : j + k + 1 = l.length) : l.reverse.take (k + 1) = l.reverse.take k ++ [g] := by
  have e : l.reverse[k]? = some g := by rw [List.getElem?_reverse (by omega), ← h]; congr 1; omega
  rw [List.take_add_one, e]; rfl
set_option maxRecDepth 100000 in
set_option maxHeartbeats 4000000 in
theorem elfOrder_walk (x : Prg) (u : Value) (w : World) (hS : SlS w u x.segs) (hF : ∀ g ∈ x.segs, Fits g) :
    Calls Try.prog 7 #[prgV x u] w fun e w' => e = .returned (.bool true) ∧ Below w.heap.size w w' := by
  have b0 := (Below.refl _ w).alloc (Nat.le_refl _) (.cells #[.int .u32 (x.entry.toNat : Int), .int .u32 (x.flags.toNat : Int), u] 25)
  have HBd := hideE (bound_any x u _ (hS.below b0))
  have hx0 := heap_alloc_new w (.cells #[.int .u32 (x.entry.toNat : Int), .int .u32 (x.flags.toNat : Int), u] 25)
  have HX0 := hideE hx0
  have HB0 := hideE b0
  obtain ⟨X, hX⟩ : ∃ X, X = cutP x := ⟨_, rfl⟩
  have hXf := cut_fits hF
  obtain ⟨hX1, hX2⟩ := cut_data x
  rw [← hX] at HBd hXf hX1 hX2
  have HXf := hideE hXf
  clear hS hF hX hXf hx0 b0
  unfold prgV at HBd
  unfold prgV
  go_enter Try.func7, Try.ntmps7
  go_wp2_with fail
  refine HBd.out.mono ?_
  rintro e w1 ⟨v, rfl, hown, hb1⟩
  obtain ⟨p, c, rfl⟩ := own_slice' hown
  have hx1 := keptN hb1 HX0.out
  have hL := LX.put (X := X) hx1 hown (by simp) (HB0.out.trans (hb1.mono (by simp)))
  have HL := hideE hL
  clear hown hb1 hL HX0 HB0 HBd
  have hbx := HL.out.box
  obtain ⟨i0, hi, hz0, hz1, hz2⟩ := info_partsE infoS
  go_upto_region 2 with (first
    | (refine wpList_store_row rfl 25 _ _ rfl w.heap.size _ rfl rfl _ _ hx1 (by kernel_rfl) rfl (by kernel_rfl) ?_))
  refine gen_world (LX w X (.slice p X.segs.length c)) HL.out ?_
  intro w2 hL2
  obtain ⟨⟨a0, a1, a2⟩, _⟩ := three hL2.box
  have a2n : ∀ ob, (w2.alloc ob).cell? ⟨w.heap.size, 2, none⟩ = some (.slice p X.segs.length c) := fun ob => (three (hL2.alloc ob).box).1.2.2
  have hbw : w.heap.size < w2.heap.size := (Array.getElem?_eq_some_iff.1 hL2.box).1
  have hsep : ∀ q n c', Value.slice p X.segs.length c = .slice (some q) n c' → 0 < n → q.block < w2.heap.size := fun q n c' e hn => by
    rcases hL2.s with ⟨_, _, e', e0⟩ | ⟨g, o, cap, e', _, hg, _⟩
    · injection e with _ e2; rw [e0] at e2; simp at e2; omega
    · rw [e'] at e; injection e with e1; injection e1 with e1; subst e1; exact hg
  have hO : OrdW w w2.heap.size X (.slice p X.segs.length c) (.slice none 0 0) [] (w2.alloc (.cells #[.int .u32 (X.entry.toNat : Int), .int .u32 (X.flags.toNat : Int), .slice none 0 0] 25)) := ⟨hL2.alloc _, heap_alloc_new w2 _, World.ownsRow_nil _ _ _ _, hsep, hbw⟩
  have HO := hideE hO
  have hws : IntKind.i64.wrap ((X.segs.length : Int) - 1) = (X.segs.length : Int) - 1 := wrE (by omega) (by omega)
  clear hO hL2 HL hx1 hsep hbx
  go_wp2_with fail
  clear a0 a1 a2 a2n
  go_loopg [4] X.segs.length (fun q i wr => ∃ (k : Nat) (u : Value), k + q = X.segs.length ∧ i = .int .i64 ((X.segs.length : Int) - 1 - (k : Int)) ∧ OrdW w w2.heap.size X (.slice p X.segs.length c) u (X.segs.reverse.take k) wr)
  case atStart => exact ⟨0, _, by omega, by simp, HO.out⟩
  case round =>
    clear HO
    obtain ⟨k, u, hkq, rfl, hO⟩ := hrel
    cases gk with
    | zero =>
      have hi1 : (X.segs.length : Int) - 1 - (k : Int) = -1 := by omega
      rw [hi1]
      obtain ⟨Y, hY⟩ : ∃ Y : Prg, Y = ⟨X.entry, X.flags, X.segs.reverse⟩ := ⟨_, rfl⟩
      have hrv : X.segs.reverse.take k = Y.segs := by rw [hY, List.take_of_length_le (by rw [List.length_reverse]; omega)]
      have hT : TwoB w w2.heap.size X Y (.slice p X.segs.length c) u wr := by
        refine ⟨hO.x, by rw [hY]; exact hO.y, ?_⟩
        have := sls_of_owns hO.own
        rwa [hrv] at this
      have hYf : ∀ g ∈ Y.segs, Fits g := fun g hg => HXf.out g (by rw [hY] at hg; exact List.mem_reverse.1 hg)
      have hCr : chk Y.segs = chk X.segs := by rw [hY]; exact chk_rev X.segs
      have hY18 : Y.segs.length ≤ 18 := by rw [hY, List.length_reverse]; exact hX1
      have hYd : (datas Y.segs).length ≤ 3600 := by
        rw [hY]
        show (datas X.segs.reverse).length ≤ 3600
        have : (datas X.segs.reverse).length = (datas X.segs).length := by
          unfold datas
          rw [List.length_flatMap, List.length_flatMap, List.map_reverse, List.sum_reverse]
        omega
      have HYf := hideE hYf
      have HCr := hideE hCr
      obtain ⟨pu, cu, rfl, _⟩ := hT.s.len
      clear hO hkq hi1 hY hrv hYf hCr hws hi hz0 hz1 hz2
      go_wp2_with fail
      refine wp_region_noPanic ?_
      refine wp_region_held_drew (S := TwoB w w2.heap.size X Y (.slice p X.segs.length c) (.slice pu Y.segs.length cu)) (by kernel_rfl) hT.drew (fun h0 => ?_)
      refine wpAnyH_takeAt (i := 0) (v := ?_) rfl (by kernel_rfl) (by kernel_rfl) (by kernel_rfl) (fun _ _ _ h => h) (Or.inl ⟨by rfl, ?_⟩) h0 ?_
      rotate_left 1
      · intro w' hS; have y0 := (three hS.x.box).1.1; have y1 := (three hS.x.box).1.2.1; have y2 := (three hS.x.box).1.2.2; have y3 := (three hS.y).1.1; have y4 := (three hS.y).1.2.1; have y5 := (three hS.y).1.2.2; clear hS
        go_simp <;> with_reducible rfl
      try simp only [Act.put, List.setIfInBounds_toArray, List.set_cons_zero, List.set_cons_succ]
      refine wpAnyH_takeAt (i := 2) (v := ?_) rfl (by kernel_rfl) (by kernel_rfl) (by kernel_rfl) (fun _ _ _ h => h) (Or.inl ⟨by rfl, ?_⟩) h0 ?_
      rotate_left 1
      · intro w' hS; have y0 := (three hS.x.box).1.1; have y1 := (three hS.x.box).1.2.1; have y2 := (three hS.x.box).1.2.2; have y3 := (three hS.y).1.1; have y4 := (three hS.y).1.2.1; have y5 := (three hS.y).1.2.2; clear hS
        go_simp <;> with_reducible rfl
      try simp only [Act.put, List.setIfInBounds_toArray, List.set_cons_zero, List.set_cons_succ]
      refine wpAnyH_ready (rs := [1]) (by kernel_rfl) (by simp) (allReady_at rfl (fun K hK => ?_))
      go_simp
      refine (check_any X (.slice p X.segs.length c) HXf.out _ h0.x.s).mono ?_
      rintro e w5 ⟨rfl, hb5⟩
      dsimp only
      have h1 : TwoB w w2.heap.size X Y (.slice p X.segs.length c) (.slice pu Y.segs.length cu) w5 := h0.below hb5
      refine hK.out _ _ h1 (fun _ => ?_)
      clear hK K
      try simp only [Act.put, List.setIfInBounds_toArray, List.set_cons_zero, List.set_cons_succ]
      refine wpAnyH_ready (rs := [3]) (by kernel_rfl) (by simp) (allReady_at rfl (fun K hK => ?_))
      go_simp
      refine (check_any Y (.slice pu Y.segs.length cu) HYf.out _ h1.s).mono ?_
      rintro e w6 ⟨he, hb6⟩
      rw [HCr.out] at he
      subst he
      dsimp only
      have h2 : TwoB w w2.heap.size X Y (.slice p X.segs.length c) (.slice pu Y.segs.length cu) w6 := h1.below hb6
      refine hK.out _ _ h2 (fun _ => ?_)
      clear hK K
      try simp only [Act.put, List.setIfInBounds_toArray, List.set_cons_zero, List.set_cons_succ]
      refine wpAnyH_takeAt (i := 4) (v := ?_) rfl (by kernel_rfl) (by kernel_rfl) (by kernel_rfl) (fun _ _ _ h => h) (Or.inl ⟨by rfl, ?_⟩) h2 ?_
      rotate_left 1
      · intro w' hS; clear hS
        go_simp <;> with_reducible rfl
      try simp only [Act.put, List.setIfInBounds_toArray, List.set_cons_zero, List.set_cons_succ]
      refine wpAnyH_takeAt (i := 5) (v := ?_) rfl (by kernel_rfl) (by kernel_rfl) (by kernel_rfl) (fun _ _ _ h => h) (Or.inl ⟨by rfl, ?_⟩) h2 ?_
      rotate_left 1
      · intro w' hS; clear hS
        go_simp <;> with_reducible rfl
      try simp only [Act.put, List.setIfInBounds_toArray, List.set_cons_zero, List.set_cons_succ]
      refine wpAnyH_done (by kernel_rfl) ?_ _
      refine NoPanic.normal ?_
      obtain ⟨⟨d0, d1, d2⟩, _⟩ := three h2.y
      have HT2 := hideE h2
      have HW := hideE (write_any Y (.slice pu Y.segs.length cu) HYf.out (fun _ => by omega) w6 h2.s)
      unfold prgV at HW
      rw [HCr.out] at HW
      clear h0 h1 h2 hT hb5 hb6
      by_cases hz : chk X.segs = 0
      · have hv : wrV Y = El.wr Y := by unfold wrV; rw [if_pos (HCr.out.trans hz)]
        have hB := back_wr (x := Y) (HCr.out.trans hz) (by have := wr_small (X := Y) (by omega) hYd; omega)
        have hwl := wr_small (X := Y) (by omega) hYd
        rw [hv, hz] at HW
        rw [hz]
        generalize El.wr Y = S at HW hB hwl
        have HB := hideE hB
        clear hB hv hz
        go_wp2_with fail
        refine HW.out.mono ?_
        rintro e w7 ⟨rfl, hb7⟩
        have HT7 := hideE (HT2.out.below hb7)
        clear hb7
        go_wp2_with fail
        refine (parse_any S (by omega) _).mono ?_
        rintro e w8 ⟨v8, he, hS8, hb8⟩
        rw [HB.out.2] at hS8
        rw [HB.out.1, HB.out.2] at he
        obtain ⟨p8, c8, rfl, _⟩ := hS8.len
        unfold prgV at he
        subst he
        have b8 := (Below.refl _ w8).alloc (Nat.le_refl _) (.cells #[.int .u32 (Y.entry.toNat : Int), .int .u32 (Y.flags.toNat : Int), .slice p8 Y.segs.length c8] 25)
        have hT9 := (HT7.out.below hb8).below b8
        obtain ⟨⟨m0, m1, m2⟩, _⟩ := three hT9.y
        obtain ⟨⟨k0, k1, k2⟩, _⟩ := three (heap_alloc_new w8 (.cells #[.int .u32 (Y.entry.toNat : Int), .int .u32 (Y.flags.toNat : Int), .slice p8 Y.segs.length c8] 25))
        have HSm := hideE (same_self Y (.slice pu Y.segs.length cu) (.slice p8 Y.segs.length c8) (by omega) _ hT9.s (hS8.below b8))
        unfold prgV at HSm
        have HT9 := hideE hT9
        clear hT9 hb8 hS8 b8
        go_wp2_with fail
        refine HSm.out.mono ?_
        rintro e wA ⟨rfl, hbA⟩
        have hb := HT9.out.x.low.trans (hbA.mono HT9.out.x.low.size)
        go_wp2_with (go_at_call 12; refine (fixed6_any _).mono ?_; rintro e wB ⟨rfl, hbB⟩)
        go_ret
        exact ⟨rfl, hb.trans (hbB.mono hb.size)⟩
      · have hv : wrV Y = [] := by unfold wrV; rw [if_neg (fun e => hz (HCr.out.symm.trans e))]
        have hq : (chk X.segs != 0) = true := bne_iff_ne.2 hz
        rw [hv] at HW
        generalize chk X.segs = kk at HW hq ⊢
        clear hv hz
        go_wp2_with fail
        refine HW.out.mono ?_
        rintro e w7 ⟨rfl, hb7⟩
        have HT7 := hideE (HT2.out.below hb7)
        clear hb7
        go_wp2_with fail
        refine (parse_any [] (by simp) _).mono ?_
        rintro e w8 ⟨v8, he, hS8, hb8⟩
        obtain ⟨p8, c8, rfl, _⟩ := hS8.len
        have HT8 := hideE ((HT7.out.below hb8).below ((Below.refl _ w8).alloc (Nat.le_refl _) (.cells #[.int .u32 ((prsV []).entry.toNat : Int), .int .u32 ((prsV []).flags.toNat : Int), .slice p8 (prsV []).segs.length c8] 25)))
        unfold prgV at he
        subst he
        clear hb8 hS8
        go_wp2_with (go_at_call 12; refine (fixed6_any _).mono ?_; rintro e wB ⟨rfl, hbB⟩)
        go_ret
        exact ⟨rfl, HT8.out.x.low.trans (hbB.mono HT8.out.x.low.size)⟩
    | succ q =>
      obtain ⟨j, hj⟩ : ∃ j : Nat, j + k + 1 = X.segs.length := ⟨q, by omega⟩
      have hji : (X.segs.length : Int) - 1 - (k : Int) = (j : Int) := by omega
      rw [hji]
      have hj0 : (0 : Int) ≤ (j : Int) := by omega
      have hjl : (j : Int) < (X.segs.length : Int) := by omega
      have hwj : IntKind.i64.wrap ((j : Int) - 1) = (j : Int) - 1 := wrE (by omega) (by omega)
      obtain ⟨g, hg⟩ : ∃ g, X.segs[j]? = some g := ⟨X.segs[j]'(by omega), List.getElem?_eq_getElem (by omega)⟩
      have hpos : 0 < X.segs.length := by omega
      obtain ⟨gb, go, rfl⟩ := sls_some hO.x.s hpos
      have hrev := rev_snoc X.segs k j g hg hj
      have hlk : (X.segs.reverse.take k).length = k := by rw [List.length_take, List.length_reverse]; omega
      have Hg := hideE hg
      have p0 := hO.drew
      clear hO hg
      go_wp2_with fail
      refine wp_region_noPanic ?_
      refine wp_region_held_drew (S := OBox w w2.heap.size X (.slice (some ⟨gb, go, none⟩) X.segs.length c)) (by kernel_rfl) p0.obox (fun h0 => ?_)
      generalize wr.drew = wd at p0 h0 ⊢
      refine wpAnyH_takeAt (i := 0) (v := ?_) rfl (by kernel_rfl) (by kernel_rfl) (by kernel_rfl) (fun _ _ _ h => h) (Or.inl ⟨by rfl, ?_⟩) h0 ?_
      rotate_left 1
      · intro w' hS; clear hS
        go_simp <;> with_reducible rfl
      try simp only [Act.put, List.setIfInBounds_toArray, List.set_cons_zero, List.set_cons_succ]
      refine wpAnyH_takeAt (i := 2) (v := ?_) rfl (by kernel_rfl) (by kernel_rfl) (by kernel_rfl) (fun _ _ _ h => h) (Or.inl ⟨by rfl, ?_⟩) h0 ?_
      rotate_left 1
      · intro w' hS; clear hS
        go_simp <;> with_reducible rfl
      try simp only [Act.put, List.setIfInBounds_toArray, List.set_cons_zero, List.set_cons_succ]
      refine wpAnyH_takeAt (i := 3) (v := ?_) rfl (by kernel_rfl) (by kernel_rfl) (by kernel_rfl) (fun _ _ _ h => h) (Or.inl ⟨by rfl, ?_⟩) h0 ?_
      rotate_left 1
      · intro w' hS; have y2 := (three hS.x.box).1.2.2; have y3 := SlS.at (slsCells hS.x.s hpos).1 j g Hg.out; have z0 := y3.1; have z1 := y3.2.1; have z2 := y3.2.2.1; have z3 := y3.2.2.2; clear hS
        go_simp <;> with_reducible rfl
      try simp only [Act.put, List.setIfInBounds_toArray, List.set_cons_zero, List.set_cons_succ]
      refine wpAnyH_takeAt (i := 4) (v := ?_) rfl (by kernel_rfl) (by kernel_rfl) (by kernel_rfl) (fun _ _ _ h => h) (Or.inl ⟨by rfl, ?_⟩) h0 ?_
      rotate_left 1
      · intro w' hS; clear hS
        go_simp <;> with_reducible rfl
      try simp only [Act.put, List.setIfInBounds_toArray, List.set_cons_zero, List.set_cons_succ]
      refine wpAnyH_takeAt (i := 5) (v := ?_) rfl (by kernel_rfl) (by kernel_rfl) (by kernel_rfl) (fun _ _ _ h => h) (Or.inl ⟨by rfl, ?_⟩) h0 ?_
      rotate_left 1
      · intro w' hS; have y2 := (three hS.x.box).1.2.2; have y3 := SlS.at (slsCells hS.x.s hpos).1 j g Hg.out; have z0 := y3.1; have z1 := y3.2.1; have z2 := y3.2.2.1; have z3 := y3.2.2.2; clear hS
        go_simp <;> with_reducible rfl
      try simp only [Act.put, List.setIfInBounds_toArray, List.set_cons_zero, List.set_cons_succ]
      refine wpAnyH_takeAt (i := 6) (v := ?_) rfl (by kernel_rfl) (by kernel_rfl) (by kernel_rfl) (fun _ _ _ h => h) (Or.inl ⟨by rfl, ?_⟩) h0 ?_
      rotate_left 1
      · intro w' hS; have y2 := (three hS.x.box).1.2.2; have y3 := SlS.at (slsCells hS.x.s hpos).1 j g Hg.out; have z0 := y3.1; have z1 := y3.2.1; have z2 := y3.2.2.1; have z3 := y3.2.2.2; clear hS
        go_simp <;> with_reducible rfl
      try simp only [Act.put, List.setIfInBounds_toArray, List.set_cons_zero, List.set_cons_succ]
      refine wpAnyH_ready (rs := [1, 7]) (by kernel_rfl) (by simp) (AllReadyH.cons (at_drop rfl) (fun K hK => ?_) (allReady_at rfl (fun K hK => ?_)))
      · have p8 := (three p0.y).1.2.2
        go_simp
        have g1 : OBox w w2.heap.size X (.slice (some ⟨gb, go, none⟩) X.segs.length c) _ := p0.obox
        refine hK.out _ _ g1 (fun _ => ?_)
        clear hK K
        try simp only [Act.put, List.setIfInBounds_toArray, List.set_cons_zero, List.set_cons_succ]
        refine wpAnyH_ready (rs := [7]) (by kernel_rfl) (by simp) (allReady_at rfl (fun K hK => ?_))
        go_simp
        have p3 := p0.alloc (.cells #[.int .u32 (g.addr.toNat : Int), .string ⟨g.data.toArray⟩, .int .i64 g.size, .int .i64 g.flags] 36)
        have h3 : OBox w w2.heap.size X (.slice (some ⟨gb, go, none⟩) X.segs.length c) _ := p3.obox
        refine hK.out _ _ h3 (fun _ => ?_)
        clear hK K
        try simp only [Act.put, List.setIfInBounds_toArray, List.set_cons_zero, List.set_cons_succ]
        refine wpAnyH_ready (rs := [8]) (by kernel_rfl) (by simp) (allReady_at rfl (fun K hK => ?_))
        rw [if_pos (by rfl)]
        refine wp_append_own _ _ _ 23 rfl (w2.heap.size + 1) 36 i0 (.agg #[.int .u32 0, .string ⟨#[]⟩, .int .i64 0, .int .i64 0]) 4 40 Try.underlying23 hi hz0 hz1 hz2 rfl (by decide) u (X.segs.reverse.take k).length (csS (X.segs.reverse.take k)) rfl p3.own ⟨wd.heap.size, 0, none⟩ 1 1 [.int .u32 (g.addr.toNat : Int), .string ⟨g.data.toArray⟩, .int .i64 g.size, .int .i64 g.flags] rfl rfl (cell_four_new wd _ _ _ _ _) (by simp [Value.oneCell']) (by rw [hlk]; unfold maxLen; omega) (by rw [hlk]; omega) (Nat.succ_le_of_lt p3.lt) ?_
        intro v' w4 hown hgrow _
        obtain ⟨pp, nn, cc, rfl⟩ := own_slice hown
        have q4 := p3.grown hgrow
        have h4 : OBox w w2.heap.size X (.slice (some ⟨gb, go, none⟩) X.segs.length c) w4 := ⟨q4.1.1, u, q4.2⟩
        refine hK.out _ _ h4 (fun _ => ?_)
        clear hK K
        try simp only [Act.put, List.setIfInBounds_toArray, List.set_cons_zero, List.set_cons_succ]
        refine wpAnyH_takeAt (i := 9) (v := ?_) rfl (by kernel_rfl) (by kernel_rfl) (by kernel_rfl) (fun _ _ _ h => h) (Or.inl ⟨by rfl, ?_⟩) h4 ?_
        rotate_left 1
        · intro w' hS; clear hS
          go_simp <;> with_reducible rfl
        try simp only [Act.put, List.setIfInBounds_toArray, List.set_cons_zero, List.set_cons_succ]
        refine wpAnyH_ready (rs := [10]) (by kernel_rfl) (by simp) (allReady_at rfl (fun K hK => ?_))
        obtain ⟨⟨q0, q1, q2⟩, f0, f1, f2⟩ := three q4.2
        go_simp
        have p5 : OrdW w w2.heap.size X (.slice (some ⟨gb, go, none⟩) X.segs.length c) (.slice pp nn cc) (X.segs.reverse.take (k + 1)) (w4.setCell ⟨w2.heap.size, 2, none⟩ (.slice pp nn cc)) := OrdW.put hbw q4.1 q4.2 (by rw [hrev, csS_app, List.length_append]; exact hown)
        have h5 : OBox w w2.heap.size X (.slice (some ⟨gb, go, none⟩) X.segs.length c) _ := p5.obox
        refine hK.out _ _ h5 (fun _ => ?_)
        clear hK K
        try simp only [Act.put, List.setIfInBounds_toArray, List.set_cons_zero, List.set_cons_succ]
        refine wpAnyH_done (by kernel_rfl) ?_ _
        refine NoPanic.normal ?_
        go_wp2_with fail
        go_roundg q
        case measure => omega
        case rel => exact ⟨k + 1, _, by omega, by congr 1; omega, p5⟩
      · go_simp
        have p3 := p0.alloc (.cells #[.int .u32 (g.addr.toNat : Int), .string ⟨g.data.toArray⟩, .int .i64 g.size, .int .i64 g.flags] 36)
        have h3 : OBox w w2.heap.size X (.slice (some ⟨gb, go, none⟩) X.segs.length c) _ := p3.obox
        refine hK.out _ _ h3 (fun _ => ?_)
        clear hK K
        try simp only [Act.put, List.setIfInBounds_toArray, List.set_cons_zero, List.set_cons_succ]
        refine wpAnyH_ready (rs := [1]) (by kernel_rfl) (by simp) (allReady_at rfl (fun K hK => ?_))
        have p8 := (three p3.y).1.2.2
        go_simp
        have g1 : OBox w w2.heap.size X (.slice (some ⟨gb, go, none⟩) X.segs.length c) _ := p3.obox
        refine hK.out _ _ g1 (fun _ => ?_)
        clear hK K
        try simp only [Act.put, List.setIfInBounds_toArray, List.set_cons_zero, List.set_cons_succ]
        refine wpAnyH_ready (rs := [8]) (by kernel_rfl) (by simp) (allReady_at rfl (fun K hK => ?_))
        rw [if_pos (by rfl)]
        refine wp_append_own _ _ _ 23 rfl (w2.heap.size + 1) 36 i0 (.agg #[.int .u32 0, .string ⟨#[]⟩, .int .i64 0, .int .i64 0]) 4 40 Try.underlying23 hi hz0 hz1 hz2 rfl (by decide) u (X.segs.reverse.take k).length (csS (X.segs.reverse.take k)) rfl p3.own ⟨wd.heap.size, 0, none⟩ 1 1 [.int .u32 (g.addr.toNat : Int), .string ⟨g.data.toArray⟩, .int .i64 g.size, .int .i64 g.flags] rfl rfl (cell_four_new wd _ _ _ _ _) (by simp [Value.oneCell']) (by rw [hlk]; unfold maxLen; omega) (by rw [hlk]; omega) (Nat.succ_le_of_lt p3.lt) ?_
        intro v' w4 hown hgrow _
        obtain ⟨pp, nn, cc, rfl⟩ := own_slice hown
        have q4 := p3.grown hgrow
        have h4 : OBox w w2.heap.size X (.slice (some ⟨gb, go, none⟩) X.segs.length c) w4 := ⟨q4.1.1, u, q4.2⟩
        refine hK.out _ _ h4 (fun _ => ?_)
        clear hK K
        try simp only [Act.put, List.setIfInBounds_toArray, List.set_cons_zero, List.set_cons_succ]
        refine wpAnyH_takeAt (i := 9) (v := ?_) rfl (by kernel_rfl) (by kernel_rfl) (by kernel_rfl) (fun _ _ _ h => h) (Or.inl ⟨by rfl, ?_⟩) h4 ?_
        rotate_left 1
        · intro w' hS; clear hS
          go_simp <;> with_reducible rfl
        try simp only [Act.put, List.setIfInBounds_toArray, List.set_cons_zero, List.set_cons_succ]
        refine wpAnyH_ready (rs := [10]) (by kernel_rfl) (by simp) (allReady_at rfl (fun K hK => ?_))
        obtain ⟨⟨q0, q1, q2⟩, f0, f1, f2⟩ := three q4.2
        go_simp
        have p5 : OrdW w w2.heap.size X (.slice (some ⟨gb, go, none⟩) X.segs.length c) (.slice pp nn cc) (X.segs.reverse.take (k + 1)) (w4.setCell ⟨w2.heap.size, 2, none⟩ (.slice pp nn cc)) := OrdW.put hbw q4.1 q4.2 (by rw [hrev, csS_app, List.length_append]; exact hown)
        have h5 : OBox w w2.heap.size X (.slice (some ⟨gb, go, none⟩) X.segs.length c) _ := p5.obox
        refine hK.out _ _ h5 (fun _ => ?_)
        clear hK K
        try simp only [Act.put, List.setIfInBounds_toArray, List.set_cons_zero, List.set_cons_succ]
        refine wpAnyH_done (by kernel_rfl) ?_ _
        refine NoPanic.normal ?_
        go_wp2_with fail
        go_roundg q
        case measure => omega
        case rel => exact ⟨k + 1, _, by omega, by congr 1; omega, p5⟩
end Go.Proofs.Ytegfpbffgnpebaa
