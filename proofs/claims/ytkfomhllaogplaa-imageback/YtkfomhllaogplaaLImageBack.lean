/-
  The walk of ImageBack.
-/
import Derived.Test.YtkfomhllaogplaaGS
import Derived.Test.YtkfomhllaogplaaGV
import Derived.Test.YtkfomhllaogplaaHG
import Derived.Deep.CutRange
namespace Go.Proofs.Ytkfomhllaogplaa
open Go.RowKit El Go.Lib
open Classical
set_option linter.unusedSimpArgs false
set_option linter.unusedVariables false

/-- The text's box, below. -/
structure IbS (w : World) (b : Nat) (A E : Int) (K : Nat) (u : Value) (W : World) : Prop where
  ib : W.heap[b]? = some (.cells (imgC A E K u) 29 (0, 0))
  low : Below w.heap.size w W
theorem IbS.below {w W W' : World} {b : Nat} {A E : Int} {K : Nat} {u : Value} (h : IbS w b A E K u W) (hb : Below W.heap.size W W') : IbS w b A E K u W' := ⟨keptN hb h.ib, h.low.trans (hb.mono h.low.size)⟩
theorem IbS.drew {w W : World} {b : Nat} {A E : Int} {K : Nat} {u : Value} (h : IbS w b A E K u W) : IbS w b A E K u W.drew := h.below (Below.refl _ W).drew
theorem IbS.put {w W W' : World} {b bm pb : Nat} {l : Mm.Cs} {A E : Int} {K : Nat} {u : Value} (h : IbS w b A E K u W) (hm : MemAt W pb bm l) (hw : w.heap.size ≤ bm) (hg : W.grownBy W' (some bm)) : IbS w b A E K u W' := by
  have hne : b ≠ bm := fun e => by
    obtain ⟨es, clock, hb, _⟩ := hm.own
    have := h.ib; rw [e, hb] at this; cases this
  exact ⟨by rw [hg.block b (Array.getElem?_eq_some_iff.1 h.ib).1 (by simp; exact hne)]; exact h.ib, h.low.grown hg h.low.size (fun k e => by injection e with e; omega)⟩
structure Bk1 (w : World) (X : Prg) (v : Value) (b5 : Nat) (A E : Int) (K : Nat) (uj : Value) (ws : List Nat) (b7 : Nat) (uy : Value) (W : World) : Prop where
  x : LX w X v W
  i : IL w b5 A E K uj ws W
  y : EX b7 X uy W
theorem Bk1.below {w W W' : World} {X : Prg} {v : Value} {b5 : Nat} {A E : Int} {K : Nat} {uj : Value} {ws : List Nat} {b7 : Nat} {uy : Value} (h : Bk1 w X v b5 A E K uj ws b7 uy W) (hb : Below W.heap.size W W') : Bk1 w X v b5 A E K uj ws b7 uy W' := ⟨h.x.below hb, h.i.below hb, h.y.below hb⟩
/-- While the words are turned. -/
structure Ot (w0 : World) (g n c : Nat) (xs : List Nat) (W : World) : Prop where
  low : Below w0.heap.size w0 W
  hg : ∃ cur, W.heap[g]? = some (.cells cur 22 (0, 0))
  s : SlW W (.slice (some ⟨g, 0, none⟩) n c) xs
theorem Ot.put {w0 W : World} {g n c k : Nat} {xs : List Nat} (h : Ot w0 g n c xs W) (hb : w0.heap.size ≤ g) (v : Nat) (hk : k < xs.length) : Ot w0 g n c (xs.set k v) (W.setCell ⟨g, k, none⟩ (.int .u32 (v : Int))) := by
  obtain ⟨cur, hc⟩ := h.hg
  exact ⟨h.low.setCell (by exact hb) _, ⟨cur.setIfInBounds k (.int .u32 (v : Int)), by simp [World.setCell, Array.getElem?_modify, hc]⟩, h.s.set hc k v hk⟩
theorem Ot.thaw {w0 W : World} {g n c : Nat} {xs : List Nat} (h : Ot w0 g n c xs W) (k : Nat) : W.frozen? ⟨g, k, none⟩ = false := by
  obtain ⟨cur, hc⟩ := h.hg
  simp [World.frozen?, hc]
theorem mputN {pb bm N : Nat} {l : Mm.Cs} {a : Int} {zs : List UInt8} (w : World) (h : MemAt w pb bm l) (ha : 0 ≤ a ∧ a < 4294967296) (hz : zs.length = N) (hN : N ≤ 65536) :
    Calls Try.prog 24 #[.pointer (some ⟨pb, 0, none⟩), .int .u32 a, .string ⟨zs.toArray⟩] w fun e w' => e = .returned (.tuple #[]) ∧ MemAt w' pb bm (Mm.puts l a zs N) ∧ w.grownBy w' (some bm) := by
  have h1 := mput_any (s := ⟨zs.toArray⟩) w h ha (by show zs.toArray.size ≤ _; rw [List.size_toArray]; omega)
  have e : (⟨zs.toArray⟩ : ByteArray).size = N := by show zs.toArray.size = _; rw [List.size_toArray]; exact hz
  rw [e] at h1
  exact h1
set_option maxRecDepth 100000 in
set_option maxHeartbeats 16000000 in
theorem imageBack_walk (x : Prg) (u0 : Value) (a : BitVec 32) (w : World) (hS : SlS w u0 x.segs) (hF : ∀ g ∈ x.segs, Fits g) :
    Calls Try.prog 6 #[prgV x u0, .int .u32 (a.toNat : Int)] w fun e w' => e = .returned (.bool true) ∧ Below w.heap.size w w' := by
  obtain ⟨j0, hi, hz0, hz1, hz2⟩ := info_parts infoW
  obtain ⟨z, hz⟩ : ∃ z : Nat, a.toNat = z := ⟨_, rfl⟩
  have hzl : z < 4294967296 := by have := a.isLt; omega
  rw [hz]
  clear hz
  have b0 := (Below.refl _ w).alloc (Nat.le_refl _) (.cells #[.int .u32 (x.entry.toNat : Int), .int .u32 (x.flags.toNat : Int), u0] 25)
  have HBd := hideE (bound_any x u0 _ (hS.below b0))
  have hx0 := heap_alloc_new w (.cells #[.int .u32 (x.entry.toNat : Int), .int .u32 (x.flags.toNat : Int), u0] 25)
  have HX0 := hideE hx0
  have HB0 := hideE b0
  obtain ⟨X, hX⟩ : ∃ X, X = cutP x := ⟨_, rfl⟩
  have hXf := cut_fits hF
  have hXd := cut_small x
  have hX1 := (cut_data x).1
  rw [← hX] at HBd hXf hXd hX1
  have HXf := hideE hXf
  have HXd := hideE hXd
  clear hS hF hX hXf hx0 b0 hXd
  unfold prgV at HBd
  unfold prgV
  go_enter Try.func6, Try.ntmps6
  go_wp2_with fail
  refine HBd.out.mono ?_
  rintro e w1 ⟨v, rfl, hown, hb1⟩
  obtain ⟨p, c, rfl⟩ := own_slice' hown
  have hx1 := keptN hb1 HX0.out
  have hL := LX.put (X := X) hx1 hown (by simp) (HB0.out.trans (hb1.mono (by simp)))
  have HL0 := hideE hL
  clear hown hb1 hL HX0 HB0 HBd
  go_upto_region 2 with (first
    | (refine wpList_store_row rfl 25 _ _ rfl w.heap.size _ rfl rfl _ _ hx1 (by kernel_rfl) rfl (by kernel_rfl) ?_))
  refine gen_world (LX w X (.slice p X.segs.length c)) HL0.out ?_
  intro wa hLa
  clear HL0 hx1
  have hd4 : ∀ g ∈ X.segs, g.data.length ≤ 4000000 := fun g hg => Nat.le_trans (HXd.out g hg) (by decide)
  have HOf := hideE (of_any X (.slice p X.segs.length c) HXf.out hd4 wa hLa.s)
  unfold prgV imgV at HOf
  have hbx := hLa.box
  have HLa := hideE hLa
  clear hLa
  by_cases hf : ofE X = 0
  · obtain ⟨J, Z, g, hJ, hok, hn1, hn50, we1, wv1, we2, wv2, hfz, hzb, hzw, hzf, hzd, hcX, hcZ, hZl, hgl, hga, hsame⟩ := back_facts hf HXf.out HXd.out z hzl
    rw [hJ, hf] at HOf
    obtain ⟨A, hA⟩ : ∃ A : Int, (J.base.toNat : Int) = A := ⟨_, rfl⟩
    obtain ⟨E, hE⟩ : ∃ E : Int, (J.entry.toNat : Int) = E := ⟨_, rfl⟩
    obtain ⟨K, hK⟩ : ∃ K, J.seg = K := ⟨_, rfl⟩
    obtain ⟨n, hn⟩ : ∃ n, J.words.length = n := ⟨_, rfl⟩
    rw [hA, hE, hK, hn] at HOf
    have hlt := hok.2.2.2
    have hAb : 0 ≤ A ∧ A < 4294967296 := by have := J.base.isLt; omega
    obtain ⟨ws, hws⟩ : ∃ ws, J.words = ws := ⟨_, rfl⟩
    have hxl := xorW_len z J.words
    rw [hn] at hn1 hn50 we1 hgl hxl
    rw [hxl] at we2
    rw [hws] at hlt hxl wv1 wv2 hzw hn HOf
    obtain ⟨O, hO⟩ : ∃ O, xorW z ws = O := ⟨_, rfl⟩
    rw [hO] at wv2 hzw hxl
    have hOlt : ∀ n ∈ O, n < 4294967296 := by rw [← hO]; exact xorW_lt hzl hlt
    have hzA : ((imgOf Z).base.toNat : Int) = A := by rw [hzb]; exact hA
    have hd6 : ∀ g ∈ X.segs, g.data.length ≤ 65536 := fun g hg => Nat.le_trans (HXd.out g hg) (by decide)
    have hzd4 : ∀ g ∈ Z.segs, g.data.length ≤ 4000000 := fun g hg => Nat.le_trans (hzd g hg) (by decide)
    have hzd6 : ∀ g ∈ Z.segs, g.data.length ≤ 65536 := fun g hg => Nat.le_trans (hzd g hg) (by decide)
    have HW1 := hideE (fun (u : Value) (W : World) (hs : SlS W (.slice p X.segs.length c) X.segs) (hl : SlW W u ws) => with_any X (.slice p X.segs.length c) u ws HXf.out hd4 hlt W hs hl)
    have HW2 := hideE (fun (u : Value) (W : World) (hs : SlS W (.slice p X.segs.length c) X.segs) (hl : SlW W u O) => with_any X (.slice p X.segs.length c) u O HXf.out hd4 hOlt W hs hl)
    rw [hn, we1, wv1] at HW1
    rw [hxl, we2, wv2] at HW2
    have HO2 := hideE (fun (u : Value) (W : World) (hs : SlS W u Z.segs) => of_any Z u hzf hzd4 W hs)
    rw [hfz] at HO2
    have HSm := hideE (fun (b b' : Value) (W : World) (hs : SlS W b X.segs) (hs' : SlS W b' X.segs) => same_self X b b' (by omega) W hs hs')
    have HWo := hideE (fun (b b' : Value) (W : World) (hs : SlW W b O) (hs' : SlW W b' O) => rwords_any O O b b' (by omega) W hs hs')
    have hdec : decide (O = O) = true := decide_eq_true rfl
    simp only [hdec] at HWo
    have HM1 := hideE (fun (W : World) (hs : SlS W (.slice p X.segs.length c) X.segs) => load_ok X (.slice p X.segs.length c) HXf.out hd6 hcX W hs)
    have HM2 := hideE (fun (u : Value) (W : World) (hs : SlS W u Z.segs) => load_ok Z u hzf hzd6 hcZ W hs)
    obtain ⟨N, hN⟩ : ∃ N, 4 * n = N := ⟨_, rfl⟩
    obtain ⟨zs, hzs⟩ : ∃ zs, List.replicate N (0 : UInt8) = zs := ⟨_, rfl⟩
    have hzsl : zs.length = N := by rw [← hzs, List.length_replicate]
    have hsame := hsame zs
    rw [hga, hA, hgl, hN] at hsame
    have HSame := hideE hsame
    have HZW := hideE hzw
    have HZA := hideE hzA
    obtain ⟨M, hmk, hcv⟩ := makeN N (by omega)
    rw [hzs] at hcv
    have hw4n : IntKind.i64.wrap (4 * (n : Int)) = (N : Int) := by rw [wrE (by omega) (by omega)]; omega
    have hN200 : N ≤ 200 := by omega
    have HZsl := hideE hzsl
    have Hw4n := hideE hw4n
    unfold prgV at HW1 HW2 HSm HM1 HM2
    unfold prgV imgV at HO2
    rw [hzA, hzw, hxl] at HO2
    obtain ⟨E2, hE2⟩ : ∃ t : Int, ((imgOf Z).entry.toNat : Int) = t := ⟨_, rfl⟩
    obtain ⟨K2, hK2⟩ : ∃ t, (imgOf Z).seg = t := ⟨_, rfl⟩
    rw [hE2, hK2] at HO2
    clear hE2 hK2 hN hzs hzsl hw4n
    have HNw := hideE hn
    have HOx := hideE hO
    have HOl := hideE hxl
    have HLt := hideE hlt
    have HMk := hideE hmk
    have HCv := hideE hcv
    clear hok we1 wv1 we2 wv2 hfz hzb hzw hzf hzd hcX hcZ hZl hgl hga hsame hd6 hzd4 hzd6 hdec hd4 hA hE hK hn hws hxl hO hOlt hzA hlt hf hJ hmk hcv
    go_wp2_with (first
      | (refine wpList_load_row rfl 25 _ rfl w.heap.size rfl _ _ _ _ hbx Try.underlying25 rfl (by kernel_rfl) ?_))
    refine HOf.out.mono ?_
    rintro e w2 ⟨uj, rfl, hown2, hb2⟩
    have hlw := slw_of_owns (l := ws) (by rw [HNw.out]; exact hown2)
    obtain ⟨pj, cj, rfl⟩ := own_slice' hown2
    have hL2 := HLa.out.below hb2
    have HI0 := hideE (IL.new (A := A) (E := E) (K := K) hlw hL2.low)
    have HL2 := hideE (hL2.below (below_setRowE (cs := imgC A E K (.slice pj n cj)) ((Below.refl _ w2).alloc (Nat.le_refl _) (.cells Z4 29)) (Nat.le_refl _)))
    clear hL2 hbx hb2 hown2 hlw HLa HOf
    go_upto_region 3 with (first
      | (refine wpList_store_row rfl 29 _ _ rfl (w2.heap.size) _ rfl rfl _ Z4 (heap_alloc_new w2 _) (by kernel_rfl) rfl (by kernel_rfl) ?_))
    refine gen_world (fun W => IL w w2.heap.size A E K (.slice pj n cj) ws W ∧ LX w X (.slice p X.segs.length c) W) ⟨HI0.out, HL2.out⟩ ?_
    rintro w3 ⟨hI, hLx⟩
    clear HI0 HL2
    generalize w2.heap.size = b5 at *
    have hbx := hLx.box
    obtain ⟨⟨i0, i1, i2, i3⟩, _⟩ := four hI.ib
    have HC := hideE (HW1.out _ w3 hLx.s hI.s)
    have HI := hideE hI
    have HLx := hideE hLx
    clear hI hLx HW1
    go_wp2_with (first
      | (refine wpList_load_row rfl 25 _ rfl w.heap.size rfl _ _ _ _ hbx Try.underlying25 rfl (by kernel_rfl) ?_))
    refine HC.out.mono ?_
    rintro e w4 ⟨uy, rfl, hown4, hb4⟩
    have hsy := sls_of_owns hown4
    obtain ⟨py, cy, rfl⟩ := own_slice' hown4
    have hbs : Below w4.heap.size w4 ((w4.alloc (.cells Z3 25)).setRow w4.heap.size #[.int .u32 (X.entry.toNat : Int), .int .u32 (X.flags.toNat : Int), .slice py X.segs.length cy]) := below_setRowE ((Below.refl _ w4).alloc (Nat.le_refl _) _) (Nat.le_refl _) _
    have HB := hideE (show Bk1 w X (.slice p X.segs.length c) b5 A E K (.slice pj n cj) ws w4.heap.size (.slice py X.segs.length cy) ((w4.alloc (.cells Z3 25)).setRow w4.heap.size #[.int .u32 (X.entry.toNat : Int), .int .u32 (X.flags.toNat : Int), .slice py X.segs.length cy]) from ⟨(HLx.out.below hb4).below hbs, (HI.out.below hb4).below hbs, EX.new hsy⟩)
    clear hown4 hb4 hsy hbs hbx HC HI HLx i0 i1 i2 i3
    go_upto_region 6 with (first
      | (refine wpList_store_row rfl 25 _ _ rfl (w4.heap.size) _ rfl rfl _ Z3 (heap_alloc_new w4 _) (by kernel_rfl) rfl (by kernel_rfl) ?_))
    refine gen_world _ HB.out ?_
    intro w5 hB
    clear HB
    generalize w4.heap.size = b7 at *
    obtain ⟨t0, ht0⟩ : ∃ t, ws[0]? = some t := ⟨ws[0]'(by rw [HNw.out]; omega), List.getElem?_eq_getElem (by rw [HNw.out]; omega)⟩
    obtain ⟨gw, ow, rfl, _⟩ := hB.i.s.at ht0
    obtain ⟨⟨i0, i1, i2, i3⟩, _⟩ := four hB.i.ib
    obtain ⟨⟨_, _, i2', _⟩, _⟩ := four (hB.i.below ((Below.refl _ w5).alloc (Nat.le_refl _) (.cells #[] 22))).ib
    have HSrc := hideE (show ∀ (j : Nat) (u : Value), (ws.map wordV)[j]? = some u → w5.cell? ⟨gw, ow + j, none⟩ = some u from fun j u hj => by
      rw [List.getElem?_map] at hj
      cases e : ws[j]? with
      | none => rw [e] at hj; cases hj
      | some t =>
        rw [e] at hj
        simp only [Option.map_some, Option.some.injEq] at hj
        subst hj
        obtain ⟨g', o', e', hc⟩ := hB.i.s.at e
        injection e' with e'
        injection e' with e1 e2
        subst e1 e2
        exact hc)
    have HB := hideE hB
    clear hB ht0
    go_upto_region 7 with (at_builtin; refine wpList_append_own _ rfl _ _ 27 rfl w5.heap.size 22 j0 (.int .u32 0) 1 4 Try.underlying27 hi hz0 hz1 hz2 rfl (by decide) _ _ _ rfl (World.ownsRow_made w5 #[] 0 (Nat.le_refl _) (Nat.zero_le _) (by simp)) ⟨gw, ow, none⟩ n cj (ws.map wordV) rfl ?qc1 ?qc2 ?qc3 ?qc4 ?qc5 ?qc6 ?_)
    case qc1 => rw [List.length_map, HNw.out, Nat.mul_one]
    case qc2 =>
      intro j u hj
      refine Lib.cell?_alloc_some _ ?_
      first | exact HSrc.out j u hj | (rw [Addr.add_lit]; exact HSrc.out j u hj)
    case qc3 =>
      intro u hu
      obtain ⟨t, _, rfl⟩ := List.mem_map.1 hu
      rfl
    case qc4 => first | (unfold maxLen; omega) | (rw [Nat.zero_add]; unfold maxLen; omega)
    case qc5 => first | omega | (rw [Nat.zero_add]; omega)
    case qc6 => first | omega | simp
    intro v' w6 hown6 hgrow6 _
    have hown6 : w6.ownsRow w5.heap.size 22 1 v' n (ws.map wordV) := by simpa using hown6
    obtain ⟨p6, c6, rfl⟩ := own_slice' hown6
    obtain ⟨g6, rfl⟩ := own_some hown6 (by omega)
    have hlow6 : Below w5.heap.size w5 w6 := ((Below.refl _ w5).alloc (Nat.le_refl _) _).grown hgrow6 (by simp) (fun k e => by have e := Option.some.inj (show some w5.heap.size = some k from e); omega)
    have hg6 : w5.heap.size ≤ g6 ∧ ∃ cur, w6.heap[g6]? = some (.cells cur 22 (0, 0)) := by
      rcases hown6.2 with ⟨e, _⟩ | ⟨g', cap, cur, e, h2, h3, _⟩
      · cases e
      · injection e with e1
        injection e1 with e1
        injection e1 with e1
        subst e1
        exact ⟨h2, cur, h3⟩
    have HOt := hideE (show Ot w5 g6 n c6 (mixW z ws 0) w6 from ⟨hlow6, hg6.2, by rw [mixW_zero]; exact slw_of_owns (l := ws) (by rw [HNw.out]; exact hown6)⟩)
    have hg6' := hg6.1
    clear hown6 hgrow6 hlow6 hg6 HSrc i0 i1 i2 i3 i2' hi hz0 hz1 hz2
    go_wp2_with fail
    go_loopg [10] n (fun q i wr => ∃ k : Nat, k + q = n ∧ i = .int .i64 (k : Int) ∧ Ot w5 g6 n c6 (mixW z ws k) wr)
    case atStart => exact ⟨0, by omega, rfl, HOt.out⟩
    case round =>
      clear HOt
      obtain ⟨k, hkq, rfl, hOt⟩ := hrel
      cases gk with
      | succ q =>
        have hk : ((k : Int) < (n : Int)) := by omega
        have hk0 : (0 : Int) ≤ (k : Int) := by omega
        have hwk : IntKind.i64.wrap ((k : Int) + 1) = (k : Int) + 1 := wrE (by omega) (by omega)
        obtain ⟨t, ht⟩ : ∃ t, ws[k]? = some t := ⟨ws[k]'(by rw [HNw.out]; omega), List.getElem?_eq_getElem (by rw [HNw.out]; omega)⟩
        have htl := HLt.out t (List.mem_of_getElem? ht)
        have hxr := xor_of htl hzl
        obtain ⟨g', o', e', c3⟩ := hOt.s.at (mixW_at (z := z) ht)
        injection e' with e'
        injection e' with e1 e2
        subst e1 e2
        rw [Nat.zero_add] at c3
        have f3 := hOt.thaw k
        have HOt := hideE (hOt.put (k := k) hg6' (t ^^^ z) (by rw [mixW_len, HNw.out]; omega))
        have HMx := hideE (mixW_set (z := z) ht)
        clear hOt ht htl
        obtain ⟨r, hr⟩ : ∃ r, t ^^^ z = r := ⟨_, rfl⟩
        rw [hr] at hxr HOt HMx
        clear hr
        go_wp2_with fail
        go_roundg q
        case measure => omega
        case rel => exact ⟨k + 1, by omega, by simp, by rw [← HMx.out]; exact HOt.out⟩
      | zero =>
        obtain rfl : k = n := by omega
        have hk : ¬ ((k : Int) < (k : Int)) := by omega
        have hso := hOt.s
        rw [show mixW z ws k = O by rw [← HNw.out, mixW_all]; exact HOx.out] at hso
        have hB1 := HB.out.below hOt.low
        have hbx := hB1.x.box
        have HC := hideE (HW2.out _ wr hB1.x.s hso)
        have HB1 := hideE hB1
        have HSo := hideE hso
        clear hOt hso hB1 HB HW2
        go_wp2_with (first
          | (refine wpList_load_row rfl 25 _ rfl w.heap.size rfl _ _ _ _ hbx Try.underlying25 rfl (by kernel_rfl) ?_))
        refine HC.out.mono ?_
        rintro e w8 ⟨uz, rfl, hown8, hb8⟩
        have hsz := sls_of_owns hown8
        obtain ⟨pz, cz, rfl⟩ := own_slice' hown8
        have hbs : Below w8.heap.size w8 ((w8.alloc (.cells Z3 25)).setRow w8.heap.size #[.int .u32 (Z.entry.toNat : Int), .int .u32 (Z.flags.toNat : Int), .slice pz Z.segs.length cz]) := below_setRowE ((Below.refl _ w8).alloc (Nat.le_refl _) _) (Nat.le_refl _) _
        have HB2 := hideE (And.intro ((HB1.out.below hb8).below hbs) (And.intro ((HSo.out.below hb8).below hbs) (EX.new (Y := Z) hsz)))
        clear hown8 hb8 hsz hbs hbx HC HB1 HSo
        go_upto_region 12 with (first
          | (refine wpList_store_row rfl 25 _ _ rfl (w8.heap.size) _ rfl rfl _ Z3 (heap_alloc_new w8 _) (by kernel_rfl) rfl (by kernel_rfl) ?_))
        refine gen_world (fun W => Bk1 w X (.slice p X.segs.length c) b5 A E K (.slice (some ⟨gw, ow, none⟩) k cj) ws b7 (.slice py X.segs.length cy) W ∧ SlW W (.slice (some ⟨g6, 0, none⟩) k c6) O ∧ EX w8.heap.size Z (.slice pz Z.segs.length cz) W) HB2.out ?_
        rintro w9 ⟨hB1, hso, hEz⟩
        clear HB2
        generalize w8.heap.size = b11 at *
        have hzx := hEz.box
        have HC := hideE (HO2.out _ w9 hEz.s)
        have HB1 := hideE hB1
        have HSo := hideE hso
        have HEz := hideE hEz
        clear hB1 hso hEz HO2
        go_wp2_with (first
          | (refine wpList_load_row rfl 25 _ rfl b11 rfl _ _ _ _ hzx Try.underlying25 rfl (by kernel_rfl) ?_))
        refine HC.out.mono ?_
        rintro e w10 ⟨uk, rfl, hown10, hb10⟩
        have hsk := slw_of_owns (l := O) (by rw [HOl.out]; exact hown10)
        obtain ⟨pk, ck, rfl⟩ := own_slice' hown10
        have hbs : Below w10.heap.size w10 ((w10.alloc (.cells Z4 29)).setRow w10.heap.size (imgC A E2 K2 (.slice pk k ck))) := below_setRowE ((Below.refl _ w10).alloc (Nat.le_refl _) _) (Nat.le_refl _) _
        have HB2 := hideE (And.intro ((HB1.out.below hb10).below hbs) (And.intro ((HSo.out.below hb10).below hbs) (And.intro ((HEz.out.below hb10).below hbs) (IL.new (A := A) (E := E2) (K := K2) hsk (HB1.out.below hb10).x.low))))
        clear hown10 hb10 hsk hbs hzx HC HB1 HSo HEz
        go_upto_region 13 with (first
          | (refine wpList_store_row rfl 29 _ _ rfl (w10.heap.size) _ rfl rfl _ Z4 (heap_alloc_new w10 _) (by kernel_rfl) rfl (by kernel_rfl) ?_))
        refine gen_world (fun W => Bk1 w X (.slice p X.segs.length c) b5 A E K (.slice (some ⟨gw, ow, none⟩) k cj) ws b7 (.slice py X.segs.length cy) W ∧ SlW W (.slice (some ⟨g6, 0, none⟩) k c6) O ∧ EX b11 Z (.slice pz Z.segs.length cz) W ∧ IL w w10.heap.size A E2 K2 (.slice pk k ck) O W) HB2.out ?_
        rintro w11 ⟨hB1, hso, hEz, hIk⟩
        clear HB2
        generalize w10.heap.size = b13 at *
        have hbx := hB1.x.box
        have hyb := hB1.y.box
        have HC := hideE (HSm.out _ _ w11 hB1.x.s hB1.y.s)
        have HB1 := hideE hB1
        have HSo := hideE hso
        have HEz := hideE hEz
        have HIk := hideE hIk
        clear hB1 hso hEz hIk HSm
        go_wp2_with (first
          | (refine wpList_load_rowG (by rfl) 25 _ rfl w.heap.size rfl _ _ _ _ hbx Try.underlying25 rfl (by kernel_rfl) ?_)
          | (refine wpList_load_rowG (by rfl) 25 _ rfl b7 rfl _ _ _ _ hyb Try.underlying25 rfl (by kernel_rfl) ?_))
        refine HC.out.mono ?_
        rintro e w12 ⟨rfl, hb12⟩
        have hIk := HIk.out.below hb12
        have hB1 := HB1.out.below hb12
        have hso := HSo.out.below hb12
        have hEz := HEz.out.below hb12
        obtain ⟨⟨k0, k1, k2, k3⟩, _⟩ := four hIk.ib
        have HC := hideE (HWo.out _ _ w12 hIk.s hso)
        have HB1 := hideE hB1
        have HEz := hideE hEz
        have HIk := hideE hIk
        clear hB1 hso hEz hIk HSo hb12 hbx hyb HWo
        go_wp2_with fail
        refine HC.out.mono ?_
        rintro e w13 ⟨rfl, hb13⟩
        have hIk := HIk.out.below hb13
        have hB1 := HB1.out.below hb13
        have hEz := HEz.out.below hb13
        clear k0 k1 k2 k3
        obtain ⟨⟨k0, k1, k2, k3⟩, _⟩ := four hIk.ib
        obtain ⟨⟨i0, i1, i2, i3⟩, _⟩ := four hB1.i.ib
        have hbx := hB1.x.box
        have HC := hideE (HM1.out w13 hB1.x.s)
        have HB1 := hideE hB1
        have HEz := hideE hEz
        clear hB1 hEz hIk HIk hb13 HM1
        go_wp2_with (first
          | (refine wpList_load_row rfl 25 _ rfl w.heap.size rfl _ _ _ _ hbx Try.underlying25 rfl (by kernel_rfl) ?_))
        refine HC.out.mono ?_
        rintro e w14 ⟨pm, bmm, rfl, hm, hpm, hbmm, hb14⟩
        have hB1 := HB1.out.below hb14
        have hEz := HEz.out.below hb14
        have hzx := hEz.box
        have hmlt := hm.lt
        have hmlt' := hm.lt'
        have hsw := HB1.out.x.low.size
        have HC := hideE (HM2.out _ w14 hEz.s)
        have HB1 := hideE hB1
        have HMm := hideE hm
        clear hB1 hEz HEz hb14 hm HM2 k0 k1 k2 k3 i0 i1 i2 i3 hbx
        go_wp2_with (first
          | (refine wpList_load_row rfl 25 _ rfl b11 rfl _ _ _ _ hzx Try.underlying25 rfl (by kernel_rfl) ?_))
        refine HC.out.mono ?_
        rintro e w15 ⟨pn, bnn, rfl, hn', hpn, hbnn, hb15⟩
        have HNe := hideE (show pn ≠ bmm ∧ bnn ≠ bmm ∧ pm ≠ bnn ∧ bmm ≠ bnn ∧ w.heap.size ≤ bmm ∧ w.heap.size ≤ bnn from ⟨by omega, by omega, by omega, by omega, by omega, by have := HB1.out.x.low.size; omega⟩)
        have HMm := hideE (HMm.out.below hb15)
        have HMn := hideE hn'
        have hB1 := HB1.out.below hb15
        have hz : IbS w b5 A E K (.slice (some ⟨gw, ow, none⟩) k cj) w15 := ⟨hB1.i.ib, hB1.i.low⟩
        clear hB1 hb15 hn' hzx HB1 hpm hbmm hpn hbnn hmlt hmlt' hsw HC
        have hmk := HMk.out
        have hcv := HCv.out
        have hw4n := Hw4n.out
        go_wp2_with fail
        obtain ⟨wz, hwz⟩ : ∃ wz, wz = w15 := ⟨_, rfl⟩
        subst hwz
        have hcv1 : (convert 58 9 (.slice (some ⟨wz.heap.size, 0, none⟩) N N)).run Try.prog (World.drew (wz.alloc (.cells M 5))) = .ok (.string ⟨zs.toArray⟩) (World.drew (wz.alloc (.cells M 5))) := HCv.out (World.drew wz)
        clear hcv
        refine wp_region_noPanic ?_
        refine wp_region_held_drew (S := IbS w b5 A E K (.slice (some ⟨gw, ow, none⟩) k cj)) (by kernel_rfl) hz.drew (fun h0 => ?_)
        refine wpAnyH_takeAt (i := 0) (v := ?_) rfl (by kernel_rfl) (by kernel_rfl) (by kernel_rfl) (fun _ _ _ h => h) (Or.inl ⟨by rfl, ?_⟩) h0 ?_
        rotate_left 1
        · intro w' hS; obtain ⟨⟨i0, i1, i2, i3⟩, _⟩ := four hS.ib; clear hS
          go_simp <;> with_reducible rfl
        try simp only [Act.put, List.setIfInBounds_toArray, List.set_cons_zero, List.set_cons_succ]
        refine wpAnyH_takeAt (i := 1) (v := ?_) rfl (by kernel_rfl) (by kernel_rfl) (by kernel_rfl) (fun _ _ _ h => h) (Or.inl ⟨by rfl, ?_⟩) h0 ?_
        rotate_left 1
        · intro w' hS; obtain ⟨⟨i0, i1, i2, i3⟩, _⟩ := four hS.ib; clear hS
          go_simp <;> with_reducible rfl
        try simp only [Act.put, List.setIfInBounds_toArray, List.set_cons_zero, List.set_cons_succ]
        refine wpAnyH_takeAt (i := 2) (v := ?_) rfl (by kernel_rfl) (by kernel_rfl) (by kernel_rfl) (fun _ _ _ h => h) (Or.inl ⟨by rfl, ?_⟩) h0 ?_
        rotate_left 1
        · intro w' hS; obtain ⟨⟨i0, i1, i2, i3⟩, _⟩ := four hS.ib; clear hS
          go_simp <;> with_reducible rfl
        try simp only [Act.put, List.setIfInBounds_toArray, List.set_cons_zero, List.set_cons_succ]
        refine wpAnyH_takeAt (i := 3) (v := ?_) rfl (by kernel_rfl) (by kernel_rfl) (by kernel_rfl) (fun _ _ _ h => h) (Or.inl ⟨by rfl, ?_⟩) h0 ?_
        rotate_left 1
        · intro w' hS; obtain ⟨⟨i0, i1, i2, i3⟩, _⟩ := four hS.ib; clear hS
          go_simp <;> with_reducible rfl
        try simp only [Act.put, List.setIfInBounds_toArray, List.set_cons_zero, List.set_cons_succ]
        refine wpAnyH_takeAt (i := 4) (v := ?_) rfl (by kernel_rfl) (by kernel_rfl) (by kernel_rfl) (fun _ _ _ h => h) (Or.inl ⟨by rfl, ?_⟩) h0 ?_
        rotate_left 1
        · intro w' hS; obtain ⟨⟨i0, i1, i2, i3⟩, _⟩ := four hS.ib; clear hS
          go_simp <;> with_reducible rfl
        try simp only [Act.put, List.setIfInBounds_toArray, List.set_cons_zero, List.set_cons_succ]
        refine wpAnyH_takeAt (i := 5) (v := ?_) rfl (by kernel_rfl) (by kernel_rfl) (by kernel_rfl) (fun _ _ _ h => h) (Or.inl ⟨by rfl, ?_⟩) h0 ?_
        rotate_left 1
        · intro w' hS; obtain ⟨⟨i0, i1, i2, i3⟩, _⟩ := four hS.ib; clear hS
          go_simp <;> with_reducible rfl
        try simp only [Act.put, List.setIfInBounds_toArray, List.set_cons_zero, List.set_cons_succ]
        refine wpAnyH_ready (rs := [6]) (by kernel_rfl) (by simp) (allReady_at rfl (fun K' hK => ?_))
        go_simp
        have h1 : IbS w b5 A E K (.slice (some ⟨gw, ow, none⟩) k cj) _ := (hz.below ((Below.refl _ _).alloc (Nat.le_refl _) (.cells M 5))).drew
        refine hK.out _ _ h1 (fun _ => ?_)
        clear hK K'
        try simp only [Act.put, List.setIfInBounds_toArray, List.set_cons_zero, List.set_cons_succ]
        refine wpAnyH_ready (rs := [7]) (by kernel_rfl) (by simp) (allReady_at rfl (fun K' hK => ?_))
        go_simp
        have h2 : IbS w b5 A E K (.slice (some ⟨gw, ow, none⟩) k cj) _ := h1
        refine hK.out _ _ h2 (fun _ => ?_)
        clear hK K'
        try simp only [Act.put, List.setIfInBounds_toArray, List.set_cons_zero, List.set_cons_succ]
        refine wpAnyH_ready (rs := [8]) (by kernel_rfl) (by simp) (allReady_at rfl (fun K' hK => ?_))
        go_simp
        have hmA := MemAt.below (MemAt.below HMm.out ((Below.refl _ wz).alloc (Nat.le_refl _) (.cells M 5))) (Below.refl _ (wz.alloc (.cells M 5))).drew
        have hnA := MemAt.below (MemAt.below HMn.out ((Below.refl _ wz).alloc (Nat.le_refl _) (.cells M 5))) (Below.refl _ (wz.alloc (.cells M 5))).drew
        refine (mputN _ hmA hAb HZsl.out (by omega)).mono ?_
        rintro e w20 ⟨rfl, hm20, hg20⟩
        dsimp only
        have hn20 := hnA.apart hg20 HNe.out.1 HNe.out.2.1
        have h3 : IbS w b5 A E K (.slice (some ⟨gw, ow, none⟩) k cj) w20 := h2.put hmA HNe.out.2.2.2.2.1 hg20
        refine hK.out _ _ h3 (fun _ => ?_)
        clear hK K'
        try simp only [Act.put, List.setIfInBounds_toArray, List.set_cons_zero, List.set_cons_succ]
        refine wpAnyH_done (by kernel_rfl) ?_ _
        refine NoPanic.normal ?_
        have HMm := hideE hm20
        have HMn := hideE hn20
        have hz := h3
        clear h0 h1 h2 h3 hmA hnA hm20 hn20 hg20
        go_wp2_with fail
        obtain ⟨wz', hwz'⟩ : ∃ wz', wz' = w20 := ⟨_, rfl⟩
        subst hwz'
        clear hcv1
        have hcv1 : (convert 58 9 (.slice (some ⟨wz'.heap.size, 0, none⟩) N N)).run Try.prog (World.drew (wz'.alloc (.cells M 5))) = .ok (.string ⟨zs.toArray⟩) (World.drew (wz'.alloc (.cells M 5))) := HCv.out (World.drew wz')
        refine wp_region_noPanic ?_
        refine wp_region_held_drew (S := IbS w b5 A E K (.slice (some ⟨gw, ow, none⟩) k cj)) (by kernel_rfl) hz.drew (fun h0 => ?_)
        refine wpAnyH_takeAt (i := 0) (v := ?_) rfl (by kernel_rfl) (by kernel_rfl) (by kernel_rfl) (fun _ _ _ h => h) (Or.inl ⟨by rfl, ?_⟩) h0 ?_
        rotate_left 1
        · intro w' hS; obtain ⟨⟨i0, i1, i2, i3⟩, _⟩ := four hS.ib; clear hS
          go_simp <;> with_reducible rfl
        try simp only [Act.put, List.setIfInBounds_toArray, List.set_cons_zero, List.set_cons_succ]
        refine wpAnyH_takeAt (i := 1) (v := ?_) rfl (by kernel_rfl) (by kernel_rfl) (by kernel_rfl) (fun _ _ _ h => h) (Or.inl ⟨by rfl, ?_⟩) h0 ?_
        rotate_left 1
        · intro w' hS; obtain ⟨⟨i0, i1, i2, i3⟩, _⟩ := four hS.ib; clear hS
          go_simp <;> with_reducible rfl
        try simp only [Act.put, List.setIfInBounds_toArray, List.set_cons_zero, List.set_cons_succ]
        refine wpAnyH_takeAt (i := 2) (v := ?_) rfl (by kernel_rfl) (by kernel_rfl) (by kernel_rfl) (fun _ _ _ h => h) (Or.inl ⟨by rfl, ?_⟩) h0 ?_
        rotate_left 1
        · intro w' hS; obtain ⟨⟨i0, i1, i2, i3⟩, _⟩ := four hS.ib; clear hS
          go_simp <;> with_reducible rfl
        try simp only [Act.put, List.setIfInBounds_toArray, List.set_cons_zero, List.set_cons_succ]
        refine wpAnyH_takeAt (i := 3) (v := ?_) rfl (by kernel_rfl) (by kernel_rfl) (by kernel_rfl) (fun _ _ _ h => h) (Or.inl ⟨by rfl, ?_⟩) h0 ?_
        rotate_left 1
        · intro w' hS; obtain ⟨⟨i0, i1, i2, i3⟩, _⟩ := four hS.ib; clear hS
          go_simp <;> with_reducible rfl
        try simp only [Act.put, List.setIfInBounds_toArray, List.set_cons_zero, List.set_cons_succ]
        refine wpAnyH_takeAt (i := 4) (v := ?_) rfl (by kernel_rfl) (by kernel_rfl) (by kernel_rfl) (fun _ _ _ h => h) (Or.inl ⟨by rfl, ?_⟩) h0 ?_
        rotate_left 1
        · intro w' hS; obtain ⟨⟨i0, i1, i2, i3⟩, _⟩ := four hS.ib; clear hS
          go_simp <;> with_reducible rfl
        try simp only [Act.put, List.setIfInBounds_toArray, List.set_cons_zero, List.set_cons_succ]
        refine wpAnyH_takeAt (i := 5) (v := ?_) rfl (by kernel_rfl) (by kernel_rfl) (by kernel_rfl) (fun _ _ _ h => h) (Or.inl ⟨by rfl, ?_⟩) h0 ?_
        rotate_left 1
        · intro w' hS; obtain ⟨⟨i0, i1, i2, i3⟩, _⟩ := four hS.ib; clear hS
          go_simp <;> with_reducible rfl
        try simp only [Act.put, List.setIfInBounds_toArray, List.set_cons_zero, List.set_cons_succ]
        refine wpAnyH_ready (rs := [6]) (by kernel_rfl) (by simp) (allReady_at rfl (fun K' hK => ?_))
        go_simp
        have h1 : IbS w b5 A E K (.slice (some ⟨gw, ow, none⟩) k cj) _ := (hz.below ((Below.refl _ _).alloc (Nat.le_refl _) (.cells M 5))).drew
        refine hK.out _ _ h1 (fun _ => ?_)
        clear hK K'
        try simp only [Act.put, List.setIfInBounds_toArray, List.set_cons_zero, List.set_cons_succ]
        refine wpAnyH_ready (rs := [7]) (by kernel_rfl) (by simp) (allReady_at rfl (fun K' hK => ?_))
        go_simp
        have h2 : IbS w b5 A E K (.slice (some ⟨gw, ow, none⟩) k cj) _ := h1
        refine hK.out _ _ h2 (fun _ => ?_)
        clear hK K'
        try simp only [Act.put, List.setIfInBounds_toArray, List.set_cons_zero, List.set_cons_succ]
        refine wpAnyH_ready (rs := [8]) (by kernel_rfl) (by simp) (allReady_at rfl (fun K' hK => ?_))
        go_simp
        have hmA := MemAt.below (MemAt.below HMm.out ((Below.refl _ wz').alloc (Nat.le_refl _) (.cells M 5))) (Below.refl _ (wz'.alloc (.cells M 5))).drew
        have hnA := MemAt.below (MemAt.below HMn.out ((Below.refl _ wz').alloc (Nat.le_refl _) (.cells M 5))) (Below.refl _ (wz'.alloc (.cells M 5))).drew
        refine (mputN _ hnA hAb HZsl.out (by omega)).mono ?_
        rintro e w21 ⟨rfl, hn21, hg21⟩
        dsimp only
        have hm21 := hmA.apart hg21 HNe.out.2.2.1 HNe.out.2.2.2.1
        have h3 : IbS w b5 A E K (.slice (some ⟨gw, ow, none⟩) k cj) w21 := h2.put hnA HNe.out.2.2.2.2.2 hg21
        refine hK.out _ _ h3 (fun _ => ?_)
        clear hK K'
        try simp only [Act.put, List.setIfInBounds_toArray, List.set_cons_zero, List.set_cons_succ]
        refine wpAnyH_done (by kernel_rfl) ?_ _
        refine NoPanic.normal ?_
        rw [HSame.out] at hn21
        have hb := h3.low
        have HLen := hideE hm21.rise.length
        have HMm := hideE hm21
        have HMn := hideE hn21
        clear h0 h1 h2 h3 hmA hnA hm21 hn21 hg21 hz
        go_wp2_with fail
        refine (cells_any _ HMm.out).mono ?_
        rintro e w22 ⟨v1, rfl, ho1, hb22⟩
        have HMn := hideE (HMn.out.below hb22)
        have hb := hb.trans (hb22.mono hb.size)
        obtain ⟨p1, c1, rfl⟩ := own_slice' ho1
        have HO1 := hideE ho1
        clear ho1 hb22
        go_wp2_with fail
        refine (cells_any _ HMn.out).mono ?_
        rintro e w23 ⟨v2, rfl, ho2, hb23⟩
        have ho1 := ownE_below HO1.out hb23
        have hb := hb.trans (hb23.mono hb.size)
        obtain ⟨p2, c2, rfl⟩ := own_slice' ho2
        have HSy := hideE (same_yes w23 ho1 ho2 HLen.out)
        clear ho1 ho2 hb23 HO1
        go_wp2_with fail
        refine HSy.out.mono ?_
        rintro e w24 ⟨rfl, nn, rfl⟩
        have hb := hb.trans ((drew_low w23 nn _).mono hb.size)
        clear HSy
        go_wp2_with (go_at_call 15; refine (fixed7_any _).mono ?_; rintro e w7 ⟨rfl, hb7⟩)
        go_ret
        exact ⟨rfl, hb.trans (hb7.mono hb.size)⟩
  · have hq : (ofE X != 0) = true := bne_iff_ne.2 hf
    have HN := hideE (of_not hf)
    rw [HN.out] at HOf
    clear hf HN hd4
    generalize ofE X = k at *
    go_wp2_with (first
      | (refine wpList_load_row rfl 25 _ rfl w.heap.size rfl _ _ _ _ hbx Try.underlying25 rfl (by kernel_rfl) ?_))
    refine HOf.out.mono ?_
    rintro e w2 ⟨uj, rfl, hown2, hb2⟩
    obtain ⟨pj, cj, rfl⟩ := own_slice' hown2
    have hlow := HLa.out.low.trans (hb2.mono HLa.out.low.size)
    have HB3 := hideE (fun cs => (below_setRowE (cs := cs) (hlow.alloc hlow.size (.cells Z4 29)) hlow.size : Below w.heap.size w _))
    clear hown2 hb2 hlow HOf HLa hbx
    go_upto_region 3 with (first
      | (refine wpList_store_row rfl 29 _ _ rfl (w2.heap.size) _ rfl rfl _ Z4 (heap_alloc_new w2 _) (by kernel_rfl) rfl (by kernel_rfl) ?_))
    refine gen_world (fun W => Below w.heap.size w W) (HB3.out _) ?_
    intro w3 hb
    clear HB3
    go_wp2_with (go_at_call 15; refine (fixed7_any _).mono ?_; rintro e w7 ⟨rfl, hb7⟩)
    go_ret
    exact ⟨rfl, hb.trans (hb7.mono hb.size)⟩
end Go.Proofs.Ytkfomhllaogplaa
