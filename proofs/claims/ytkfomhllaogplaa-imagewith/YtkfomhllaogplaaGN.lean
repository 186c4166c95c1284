/-
  Contract of the document's layer 7: Of.
-/
import Derived.Test.YtkfomhllaogplaaGM
import Derived.Test.YtkfomhllaogplaaGI
namespace Go.Proofs.Ytkfomhllaogplaa
open Go.RowKit El Go.Lib
open Classical
set_option linter.unusedSimpArgs false
set_option linter.unusedVariables false

theorem own_ne {W : World} {B : Nat} {t t' : TypeId} {k : Nat} {v : Value} {n : Nat} {xs : List Value} (h : W.ownsRow B t k v n xs) {b : Nat} {cs : Array Value} {fr : Nat × Nat} (hb : W.heap[b]? = some (.cells cs t' fr)) (ht : t ≠ t') : some b ≠ v.ownBlock := by
  rcases h.2 with ⟨rfl, _⟩ | ⟨g, cap, cur, rfl, _, h3, _⟩
  · simp [Value.ownBlock]
  · intro e
    simp [Value.ownBlock] at e
    subst e
    rw [h3] at hb; injection hb with hb; injection hb with _ hb; exact ht hb
abbrev segC (y : Seg) : Array Value := #[.int .u32 (y.addr.toNat : Int), .string ⟨y.data.toArray⟩, .int .i64 y.size, .int .i64 y.flags]
abbrev ZS : Array Value := #[.int .u32 0, .string ⟨#[]⟩, .int .i64 0, .int .i64 0]
/-- While the document's Of is at work, its text found. -/
structure OfB (w : World) (E F : Int) (v : Value) (l : List Seg) (b8 : Nat) (y : Seg) (W : World) : Prop where
  at' : OfAt w E F v l W
  sb : W.heap[b8]? = some (.cells (segC y) 42 (0, 0))
theorem OfB.below {w W W' : World} {E F : Int} {v : Value} {l : List Seg} {b8 : Nat} {y : Seg} (h : OfB w E F v l b8 y W) (hb : Below W.heap.size W W') : OfB w E F v l b8 y W' := ⟨h.at'.below hb, keptN hb h.sb⟩
/-- While the words are listed. -/
structure ImAt (w : World) (E F : Int) (b8 : Nat) (y : Seg) (b9 : Nat) (A0 : Int) (K : Nat) (v : Value) (ws : List Nat) (W : World) : Prop where
  res : W.heap[w.heap.size + 1]? = some (.cells Z4 29 (0, 0))
  sb : W.heap[b8]? = some (.cells (segC y) 42 (0, 0))
  ib : W.heap[b9]? = some (.cells (imgC A0 E K v) 29 (0, 0))
  own : W.ownsRow w.heap.size 22 1 v ws.length (ws.map wordV)
  low : Below w.heap.size w W
structure ImS (w : World) (E F : Int) (b8 : Nat) (y : Seg) (b9 : Nat) (A0 : Int) (K : Nat) (W : World) : Prop where
  res : W.heap[w.heap.size + 1]? = some (.cells Z4 29 (0, 0))
  sb : W.heap[b8]? = some (.cells (segC y) 42 (0, 0))
  ib : ∃ v, W.heap[b9]? = some (.cells (imgC A0 E K v) 29 (0, 0))
theorem ImAt.s {w W : World} {E F : Int} {b8 : Nat} {y : Seg} {b9 : Nat} {A0 : Int} {K : Nat} {v : Value} {ws : List Nat} (h : ImAt w E F b8 y b9 A0 K v ws W) : ImS w E F b8 y b9 A0 K W := ⟨h.res, h.sb, ⟨v, h.ib⟩⟩
theorem ImAt.below {w W W' : World} {E F : Int} {b8 : Nat} {y : Seg} {b9 : Nat} {A0 : Int} {K : Nat} {v : Value} {ws : List Nat} (h : ImAt w E F b8 y b9 A0 K v ws W) (hb : Below W.heap.size W W') : ImAt w E F b8 y b9 A0 K v ws W' :=
  ⟨keptN hb h.res, keptN hb h.sb, keptN hb h.ib, ownE_below h.own hb, h.low.trans (hb.mono h.low.size)⟩
theorem ImAt.drew {w W : World} {E F : Int} {b8 : Nat} {y : Seg} {b9 : Nat} {A0 : Int} {K : Nat} {v : Value} {ws : List Nat} (h : ImAt w E F b8 y b9 A0 K v ws W) : ImAt w E F b8 y b9 A0 K v ws W.drew := h.below (Below.refl _ W).drew
/-- The list has grown, the image not yet. -/
structure ImG (w : World) (E F : Int) (b8 : Nat) (y : Seg) (b9 : Nat) (A0 : Int) (K : Nat) (v : Value) (W : World) : Prop where
  res : W.heap[w.heap.size + 1]? = some (.cells Z4 29 (0, 0))
  sb : W.heap[b8]? = some (.cells (segC y) 42 (0, 0))
  ib : W.heap[b9]? = some (.cells (imgC A0 E K v) 29 (0, 0))
  low : Below w.heap.size w W
theorem ImG.s {w W : World} {E F : Int} {b8 : Nat} {y : Seg} {b9 : Nat} {A0 : Int} {K : Nat} {v : Value} (h : ImG w E F b8 y b9 A0 K v W) : ImS w E F b8 y b9 A0 K W := ⟨h.res, h.sb, ⟨v, h.ib⟩⟩
theorem ImAt.grown {w W W' : World} {E F : Int} {b8 : Nat} {y : Seg} {b9 : Nat} {A0 : Int} {K : Nat} {v : Value} {ws : List Nat} (h : ImAt w E F b8 y b9 A0 K v ws W) (hg : W.grownBy W' v.ownBlock) : ImG w E F b8 y b9 A0 K v W' := by
  have q : ∀ {b : Nat} {cs : Array Value} {t : TypeId}, 22 ≠ t → W.heap[b]? = some (.cells cs t (0, 0)) → W'.heap[b]? = some (.cells cs t (0, 0)) := fun {b cs t} ht hb => by
    rw [hg.block b (Array.getElem?_eq_some_iff.1 hb).1 (own_ne h.own hb ht)]; exact hb
  exact ⟨q (by decide) h.res, q (by decide) h.sb, q (by decide) h.ib, h.low.grown hg h.low.size (fun k e => (h.own.lt k e).1)⟩
theorem ImG.put {w W : World} {E F : Int} {b8 : Nat} {y : Seg} {b9 : Nat} {A0 : Int} {K : Nat} {v v' : Value} {ws' : List Nat} (h : ImG w E F b8 y b9 A0 K v W) (h9 : w.heap.size ≤ b9) (n1 : w.heap.size + 1 ≠ b9) (ho : W.ownsRow w.heap.size 22 1 v' ws'.length (ws'.map wordV)) :
    ImAt w E F b8 y b9 A0 K v' ws' (W.setCell ⟨b9, 2, none⟩ v') := by
  have n8 : b8 ≠ b9 := fun e => by
    have := h.ib; rw [← e, h.sb] at this; injection this with this; injection this with _ this; revert this; decide
  refine ⟨?_, ?_, ?_, own_set ho h.ib (by decide) _, h.low.setCell (by exact h9) _⟩
  · rw [set_other _ _ _ _ (by exact n1)]; exact h.res
  · rw [set_other _ _ _ _ (by exact n8)]; exact h.sb
  · simp [World.setCell, Array.getElem?_modify, h.ib]
theorem words_snoc (d : List UInt8) (k : Nat) (h : 4 * k + 4 ≤ d.length) : (words d).take (k + 1) = (words d).take k ++ [le4 d (4 * k)] := by
  rw [List.take_add_one, words_get d k h]; rfl
/-- The tests of a segment, as the document makes them. -/
theorem fl_quo {f : Int} (h0 : 0 ≤ f) (h1 : f ≤ 7) : ∃ X : Nat, f.tdiv 2 = (X : Int) ∧ X ≤ 3 ∧ f / 2 = (X : Int) := by
  refine ⟨(f / 2).toNat, ?_, by omega, by omega⟩
  rw [Int.tdiv_eq_ediv_of_nonneg h0]; omega
set_option maxRecDepth 100000 in
set_option maxHeartbeats 20000000 in
theorem rof_any (x : Prg) (v : Value) (hl : x.segs.length ≤ 1000) (hd : ∀ g ∈ x.segs, g.data.length ≤ 4000000) (w : World) (hS : SlS w v x.segs) :
    Calls Try.prog 10 #[prgV x v] w fun e w' => ∃ u, e = .returned (.tuple #[imgV (imgOf x) u, .int .i64 (ofE x)]) ∧ w'.ownsRow w.heap.size 22 1 u (imgOf x).words.length ((imgOf x).words.map wordV) ∧ Below w.heap.size w w' := by
  obtain ⟨i0, hi, hz0, hz1, hz2⟩ := info_parts infoW
  obtain ⟨p0, c, rfl, _⟩ := hS.len
  obtain ⟨E, hE⟩ : ∃ E : Int, (x.entry.toNat : Int) = E := ⟨_, rfl⟩
  obtain ⟨F, hF⟩ : ∃ F : Int, (x.flags.toNat : Int) = F := ⟨_, rfl⟩
  have n0 := OfAt.new (E := E) (F := F) hS
  obtain ⟨⟨a0, a1, a2⟩, _⟩ := three n0.box
  have HCk := hideE (rcheck_any x _ hl _ n0.s)
  have HN := hideE n0
  have HD := hideE hd
  simp only [prgV] at HCk ⊢
  rw [hE, hF] at HCk ⊢
  clear hS hd n0
  obtain ⟨l, hL⟩ : ∃ l, x.segs = l := ⟨_, rfl⟩
  have HL := hideE hL
  have HEn := hideE hE
  have hEE : 0 ≤ E ∧ E < 4294967296 := by have := x.entry.isLt; omega
  obtain ⟨hEE0, hEE1⟩ := hEE
  clear hE hF
  rw [hL] at HCk HN HD hl a2 ⊢
  clear hL
  go_enter Try.func10, Try.ntmps10
  go_wp2_with fail
  refine HCk.out.mono ?_
  rintro e w1 ⟨rfl, hb1⟩
  have n1 := HN.out.below hb1
  clear HCk HN hb1 a0 a1 a2
  obtain ⟨⟨a0, a1, a2⟩, _⟩ := three n1.box
  by_cases h0 : chk l = 0
  · obtain ⟨hl16, hmay, _⟩ := chk_zero h0
    have HC := hideE (show chk x.segs = 0 by rw [HL.out]; exact h0)
    rw [h0]
    have HM := hideE hmay
    have HN := hideE n1
    clear h0 hmay n1
    go_wp2_with fail
    go_loopg [5, 6, 7] l.length (fun q a b i wr => ∃ (k : Nat) (z : Int), k + q = l.length ∧ a = .int .i64 z ∧ (1 ≤ cntR l k → z = (lastR l k : Int)) ∧ b = .int .i64 (cntR l k : Int) ∧ i = .int .i64 (k : Int) ∧ OfAt w E F (.slice p0 l.length c) l wr)
    case atStart => exact ⟨0, -1, by omega, rfl, fun h => by simp [cntR] at h, rfl, rfl, HN.out⟩
    case round =>
      clear HN a0 a1 a2
      obtain ⟨k, z, hkq, rfl, hz, rfl, rfl, hA⟩ := hrel
      have HZ := hideE hz
      obtain ⟨⟨a0, a1, a2⟩, _⟩ := three hA.box
      clear hz
      cases gk with
      | zero =>
        obtain rfl : k = l.length := by omega
        have hk : ¬ ((l.length : Int) < (l.length : Int)) := by omega
        rw [show cntR l l.length = cnt l from rfl]
        by_cases h1 : cnt l = 1
        · have ht := txt_lt h1
          obtain ⟨y, hy⟩ : ∃ y, l[txt l]? = some y := ⟨l[txt l]'ht, List.getElem?_eq_getElem ht⟩
          have hzz : z = (txt l : Int) := HZ.out (by rw [show cntR l l.length = cnt l from rfl, h1]; exact Nat.le_refl _)
          rw [hzz, h1]
          have HT := hideE (show isText x.segs = ofW y by rw [HL.out]; exact isText_of h1 hy)
          have HG := hideE (show x.segs[txt x.segs]? = some y by rw [HL.out]; exact hy)
          have hym := HM.out y (List.mem_of_getElem? hy)
          have hdy := HD.out y (List.mem_of_getElem? hy)
          have hpos : 0 < l.length := by omega
          obtain ⟨gb, o, rfl⟩ := sls_some hA.s hpos
          obtain ⟨hcs, _⟩ := slsCells hA.s hpos
          obtain ⟨b0, b1, b2, b3⟩ := SlS.at hcs _ y hy
          have HK := hideE (show txt x.segs = txt l by rw [HL.out])
          clear hcs hy hzz h1 HZ
          generalize txt l = K at *
          have hK0 : (0 : Int) ≤ (K : Int) := by omega
          have hK1 : (K : Int) < (l.length : Int) := by omega
          have h8 : w.heap.size + 2 ≤ wr.heap.size := by have := (Array.getElem?_eq_some_iff.1 hA.res).1; omega
          have HA := hideE hA
          clear hA
          go_upto_region 14 with (first
            | (refine wpList_store_row rfl 42 _ _ rfl wr.heap.size _ rfl rfl _ ZS (heap_alloc_new wr _) (by kernel_rfl) rfl (by kernel_rfl) ?_))
          have hB : OfB w E F (.slice (some ⟨gb, o, none⟩) l.length c) l wr.heap.size y ((wr.alloc (.cells ZS 42)).setRow wr.heap.size (segC y)) := ⟨HA.out.below (below_setRowE ((Below.refl _ wr).alloc (Nat.le_refl _) _) (Nat.le_refl _) _), setRow_heap _ _ _ _ _ _ (heap_alloc_new wr _)⟩
          refine gen_world _ hB ?_
          intro wb hB
          clear a0 a1 a2 b0 b1 b2 b3 HA
          generalize wr.heap.size = b8 at *
          obtain ⟨⟨z0, z1, z2, z3⟩, _⟩ := four hB.sb
          obtain ⟨⟨a0, a1, a2⟩, _⟩ := three hB.at'.box
          have hrs := hB.at'.res
          have HB := hideE hB
          obtain ⟨X, hX1, hX3, hX2⟩ := fl_quo hym.2.2.2.1 hym.2.2.2.2.1
          have HXw := hideE (show wrap64 (X : Int) = (X : Int) by unfold wrap64; omega)
          have hys := hym.2.2.2.2.2
          have hy1 := hym.2.2.1
          have hy2 := hym.2.1
          have hel := x.entry.isLt
          have hal := y.addr.isLt
          have Hwe := hideE (show IntKind.i64.wrap ((y.addr.toNat : Int) + y.size) = (y.addr.toNat : Int) + y.size from wrE (by omega) (by omega))
          clear hB
          by_cases c1 : y.flags / 2 % 2 = 0
          · have hXm : (X : Int).tmod 2 = 0 := by rw [Int.tmod_eq_emod_of_nonneg (by omega)]; omega
            by_cases c2 : (y.addr.toNat : Int) % 4 = 0
            · by_cases c3 : (y.data.length : Int) % 4 = 0
              · by_cases c4 : 0 < y.data.length
                · have hc4 : ¬ y.data = [] := fun e => by rw [e] at c4; simp at c4
                  have hc4' : y.data.isEmpty = false := by simpa using hc4
                  by_cases c5 : y.size = (y.data.length : Int)
                  · have HTT := hideE (show isText x.segs = true by rw [HT.out]; unfold ofW; exact decide_eq_true ⟨c1, by omega, by omega, c4, c5⟩)
                    have hq5 : (y.size != (y.data.length : Int)) = false := by rw [c5]; exact bne_self_eq_false _
                    have HC5 := hideE c5
                    clear c5
                    by_cases e1 : E % 4 = 0
                    · by_cases e2 : E < (y.addr.toNat : Int)
                      · have e0 := of_71 HC.out HTT.out HG.out (by unfold entryIn; exact decide_eq_false (fun h => by have := HEn.out; have := h.2.1; omega))
                        have HE0 := hideE e0
                        have HE1 := hideE (of_not (x := x) (by rw [e0]; decide))
                        clear e0 
                        have hXw := HXw.out
                        have hwe := Hwe.out
                        go_upto_region 17 with (fail)
                        go_wp2_with (first
                          | (refine wpList_store_row rfl 29 _ _ rfl (w.heap.size + 1) _ rfl rfl _ Z4 hrs (by kernel_rfl) rfl (by kernel_rfl) ?_))
                        exact bodyPost_ret (results_row_tmpE (p := 2) (u := 3) (by kernel_rfl) _ _ (w.heap.size + 1) _ _ _ _ rfl (setRow_heap _ _ _ _ _ _ hrs) Try.underlying29 rfl (by kernel_rfl)) rfl ⟨.slice none 0 0, by rw [HE0.out, HE1.out]; rfl, by rw [HE1.out]; exact World.ownsRow_nil _ _ _ _, below_setRowE HB.out.at'.low (by omega) _⟩
                      · by_cases e3 : (y.addr.toNat : Int) + y.size ≤ E
                        · have e0 := of_71 HC.out HTT.out HG.out (by unfold entryIn; exact decide_eq_false (fun h => by have := HEn.out; have := HC5.out; have := h.2.2; omega))
                          have HE0 := hideE e0
                          have HE1 := hideE (of_not (x := x) (by rw [e0]; decide))
                          clear e0 
                          have hXw := HXw.out
                          have hwe := Hwe.out
                          go_upto_region 17 with (fail)
                          go_wp2_with (first
                            | (refine wpList_store_row rfl 29 _ _ rfl (w.heap.size + 1) _ rfl rfl _ Z4 hrs (by kernel_rfl) rfl (by kernel_rfl) ?_))
                          exact bodyPost_ret (results_row_tmpE (p := 2) (u := 3) (by kernel_rfl) _ _ (w.heap.size + 1) _ _ _ _ rfl (setRow_heap _ _ _ _ _ _ hrs) Try.underlying29 rfl (by kernel_rfl)) rfl ⟨.slice none 0 0, by rw [HE0.out, HE1.out]; rfl, by rw [HE1.out]; exact World.ownsRow_nil _ _ _ _, below_setRowE HB.out.at'.low (by omega) _⟩
                        · have hn : 0 < y.data.length / 4 := by omega
                          have he : entryIn y x.entry = true := by unfold entryIn; exact decide_eq_true ⟨by have := HEn.out; omega, by have := HEn.out; omega, by have := HEn.out; have := HC5.out; omega⟩
                          obtain ⟨e0, e1⟩ := of_0 HC.out HTT.out HG.out he
                          have HE0 := hideE e0
                          have HE1 := hideE e1
                          clear he e0 e1
                          have hXw := HXw.out
                          have hwe := Hwe.out
                          go_upto_region 18 with (fail)
                          go_upto_region 19 with (first
                            | (refine wpList_store_row rfl 29 _ _ rfl wb.heap.size _ rfl rfl _ Z4 (heap_alloc_new wb _) (by kernel_rfl) rfl (by kernel_rfl) ?_))
                          have hI : ImAt w E F b8 y wb.heap.size (y.addr.toNat : Int) K (.slice none 0 0) ((words y.data).take 0) ((wb.alloc (.cells Z4 29)).setRow wb.heap.size (imgC (y.addr.toNat : Int) E K (.slice none 0 0))) := by
                            have hb4 : Below wb.heap.size wb ((wb.alloc (.cells Z4 29)).setRow wb.heap.size (imgC (y.addr.toNat : Int) E K (.slice none 0 0))) := below_setRowE ((Below.refl _ wb).alloc (Nat.le_refl _) _) (Nat.le_refl _) _
                            exact ⟨keptN hb4 HB.out.at'.res, keptN hb4 HB.out.sb, setRow_heap _ _ _ _ _ _ (heap_alloc_new wb _), World.ownsRow_nil _ _ _ _, HB.out.at'.low.trans (hb4.mono HB.out.at'.low.size)⟩
                          refine gen_world _ hI ?_
                          intro wi hI
                          have h9 : w.heap.size + 2 ≤ wb.heap.size := by have := (Array.getElem?_eq_some_iff.1 HB.out.sb).1; omega
                          generalize wb.heap.size = b9 at *
                          have n1 : w.heap.size + 1 ≠ b9 := by omega
                          have h9' : w.heap.size ≤ b9 := by omega
                          clear a0 a1 a2 z0 z1 z2 z3 hrs HB hXw hwe
                          have hmod : y.data.length % 4 = 0 := by omega
                          have hA0 : (y.addr.toNat : Int) = (y.addr.toNat : Int) := rfl
                          obtain ⟨A0, hAA⟩ : ∃ A0 : Int, (y.addr.toNat : Int) = A0 := ⟨_, rfl⟩
                          rw [hAA] at hI
                          have HAA := hideE hAA
                          clear hAA hA0
                          go_wp2_with fail
                          go_loopg [10] (y.data.length / 4) (fun q i wr => ∃ (k : Nat) (v : Value), k + q = y.data.length / 4 ∧ i = .int .i64 (4 * (k : Int)) ∧ ImAt w E F b8 y b9 A0 K v ((words y.data).take k) wr)
                          case atStart => exact ⟨0, _, by omega, rfl, hI⟩
                          case round =>
                            clear hI
                            obtain ⟨k, v, hkq, rfl, hz⟩ := hrel
                            obtain ⟨⟨s0, s1, s2, s3⟩, _⟩ := four hz.sb
                            cases gk with
                            | zero =>
                              obtain rfl : k = y.data.length / 4 := by omega
                              have hk : ¬ (4 * ((y.data.length / 4 : Nat) : Int) < (y.data.length : Int)) := by omega
                              have hall : (words y.data).take (y.data.length / 4) = words y.data := List.take_of_length_le (by rw [words_len]; omega)
                              rw [hall] at hz
                              obtain ⟨pv, cv, rfl⟩ := own_slice' hz.own
                              have hib := hz.ib
                              have hrs := hz.res
                              have HZ := hideE hz
                              clear hz
                              go_wp2_with (first
                                | (refine wpList_load_row rfl 29 _ rfl b9 rfl _ _ _ _ hib Try.underlying29 rfl (by kernel_rfl) ?_)
                                | (refine wpList_store_row rfl 29 _ _ rfl (w.heap.size + 1) _ rfl rfl _ Z4 hrs (by kernel_rfl) rfl (by kernel_rfl) ?_))
                              exact bodyPost_ret (results_row_tmpE (p := 2) (u := 3) (by kernel_rfl) _ _ (w.heap.size + 1) _ _ _ _ rfl (setRow_heap _ _ _ _ _ _ hrs) Try.underlying29 rfl (by kernel_rfl)) rfl ⟨_, by rw [HE0.out, HE1.out, HK.out, ← HEn.out, ← HAA.out]; rfl, by rw [HE1.out]; exact own_row HZ.out.own hrs (by decide) _, below_setRowE HZ.out.low (by omega) _⟩
                            | succ q =>
                              have hk : (4 * (k : Int) < (y.data.length : Int)) := by omega
                              have hk0 : (0 : Int) ≤ 4 * (k : Int) := by omega
                              have hwk : IntKind.i64.wrap (4 * (k : Int) + 4) = 4 * ((k + 1 : Nat) : Int) := by rw [wrE (by omega) (by omega)]; omega
                              have hx := words_snoc y.data k (by omega)
                              have hxl := le4_lt y.data (4 * k)
                              obtain ⟨x', hx'⟩ : ∃ x', le4 y.data (4 * k) = x' := ⟨_, rfl⟩
                              have hcx : (x' : Int) % 4294967296 = (x' : Int) := by omega
                              rw [hx'] at hx
                              have HX := hideE hx
                              have HX' := hideE hx'
                              have hcx' : IntKind.u32.wrap (x' : Int) = (x' : Int) := hcx
                              clear hx hx'
                              obtain ⟨pv, cv, hv⟩ := own_slice' hz.own
                              rw [show ((words y.data).take k).length = k by rw [List.length_take, words_len]; omega] at hv
                              subst hv
                              go_wp2_with fail
                              clear s0 s1 s2 s3
                              obtain ⟨wz, hwz⟩ : ∃ wz, wz = wr := ⟨_, rfl⟩
                              subst hwz
                              refine wp_region_noPanic ?_
                              refine wp_region_held_drew (S := ImS w E F b8 y b9 A0 K) (by kernel_rfl) hz.drew.s (fun h0 => ?_)
                              have p0 := hz.drew
                              refine wpAnyH_takeAt (i := 0) (v := ?_) rfl (by kernel_rfl) (by kernel_rfl) (by kernel_rfl) (fun _ _ _ h => h) (Or.inl ⟨by rfl, ?_⟩) h0 ?_
                              rotate_left 1
                              · intro w' hS; clear hS
                                go_simp <;> with_reducible rfl
                              try simp only [Act.put, List.setIfInBounds_toArray, List.set_cons_zero, List.set_cons_succ]
                              refine wpAnyH_takeAt (i := 2) (v := ?_) rfl (by kernel_rfl) (by kernel_rfl) (by kernel_rfl) (fun _ _ _ h => h) (Or.inl ⟨by rfl, ?_⟩) h0 ?_
                              rotate_left 1
                              · intro w' hS; clear hS
                                go_simp <;> with_reducible rfl
                              try simp only [Act.put, List.setIfInBounds_toArray, List.set_cons_zero, List.set_cons_succ]
                              refine wpAnyH_takeAt (i := 3) (v := ?_) rfl (by kernel_rfl) (by kernel_rfl) (by kernel_rfl) (fun _ _ _ h => h) (Or.inl ⟨by rfl, ?_⟩) h0 ?_
                              rotate_left 1
                              · intro w' hS; obtain ⟨⟨z0, z1, z2, z3⟩, _⟩ := four hS.sb; clear hS
                                go_simp <;> with_reducible rfl
                              try simp only [Act.put, List.setIfInBounds_toArray, List.set_cons_zero, List.set_cons_succ]
                              refine wpAnyH_takeAt (i := 4) (v := ?_) rfl (by kernel_rfl) (by kernel_rfl) (by kernel_rfl) (fun _ _ _ h => h) (Or.inl ⟨by rfl, ?_⟩) h0 ?_
                              rotate_left 1
                              · intro w' hS; clear hS
                                go_simp <;> with_reducible rfl
                              try simp only [Act.put, List.setIfInBounds_toArray, List.set_cons_zero, List.set_cons_succ]
                              refine wpAnyH_ready (rs := [1, 5]) (by kernel_rfl) (by simp) (AllReadyH.cons (at_drop rfl) (fun K' hK => ?_) (allReady_at rfl (fun K' hK => ?_)))
                              · obtain ⟨⟨i0, i1, i2, i3⟩, _⟩ := four p0.ib
                                go_simp
                                clear i0 i1 i2 i3
                                have g1 : ImS w E F b8 y b9 A0 K _ := p0.s
                                refine hK.out _ _ g1 (fun _ => ?_)
                                clear hK K'
                                try simp only [Act.put, List.setIfInBounds_toArray, List.set_cons_zero, List.set_cons_succ]
                                refine wpAnyH_ready (rs := [5]) (by kernel_rfl) (by simp) (allReady_at rfl (fun K' hK => ?_))
                                go_simp
                                refine (rnum4_any y.data (4 * k) (by omega) hdy _ (by omega) _).mono ?_
                                rintro e w1 ⟨he, rfl⟩
                                rw [HX'.out] at he
                                subst he
                                dsimp only
                                have h1 : ImS w E F b8 y b9 A0 K _ := h0
                                refine hK.out _ _ h1 (fun _ => ?_)
                                clear hK K'
                                try simp only [Act.put, List.setIfInBounds_toArray, List.set_cons_zero, List.set_cons_succ]
                                refine wpAnyH_takeAt (i := 6) (v := .int .u32 (x' : Int)) rfl (by kernel_rfl) (by kernel_rfl) (by kernel_rfl) (fun _ _ _ h => h) (Or.inl ⟨by rfl, ?_⟩) h1 ?_
                                · intro w' hS; clear hS
                                  go_simp
                                try simp only [Act.put, List.setIfInBounds_toArray, List.set_cons_zero, List.set_cons_succ]
                                refine wpAnyH_ready (rs := [7]) (by kernel_rfl) (by simp) (allReady_at rfl (fun K' hK => ?_))
                                go_simp
                                have p1 := (hz.below ((Below.refl _ _).alloc (Nat.le_refl _) (.cells #[.int .u32 (x' : Int)] 22))).drew
                                have h2 : ImS w E F b8 y b9 A0 K _ := p1.s
                                refine hK.out _ _ h2 (fun _ => ?_)
                                clear hK K'
                                try simp only [Act.put, List.setIfInBounds_toArray, List.set_cons_zero, List.set_cons_succ]
                                refine wpAnyH_ready (rs := [8]) (by kernel_rfl) (by simp) (allReady_at rfl (fun K' hK => ?_))
                                rw [if_pos (by rfl)]
                                refine wp_append_own _ _ _ 27 rfl w.heap.size 22 i0 (.int .u32 0) 1 4 Try.underlying27 hi hz0 hz1 hz2 rfl (by decide) (.slice pv k cv) ((words y.data).take k).length (((words y.data).take k).map wordV) rfl p1.own ⟨wz.heap.size, 0, none⟩ 1 1 [.int .u32 (x' : Int)] rfl rfl (Go.cell_one_new wz.drew _ _) (by simp [Value.oneCell']) (by rw [List.length_take]; unfold maxLen; omega) (by rw [List.length_take]; omega) (by have := p1.low.size; simp at this ⊢; omega) ?_
                                intro v' w4 hown hgrow _
                                obtain ⟨pp, nn, cc, rfl⟩ := own_slice hown
                                have p4 := p1.grown hgrow
                                have h4 : ImS w E F b8 y b9 A0 K w4 := p4.s
                                refine hK.out _ _ h4 (fun _ => ?_)
                                clear hK K'
                                try simp only [Act.put, List.setIfInBounds_toArray, List.set_cons_zero, List.set_cons_succ]
                                refine wpAnyH_takeAt (i := 9) (v := ?_) rfl (by kernel_rfl) (by kernel_rfl) (by kernel_rfl) (fun _ _ _ h => h) (Or.inl ⟨by rfl, ?_⟩) h4 ?_
                                rotate_left 1
                                · intro w' hS; clear hS
                                  go_simp <;> with_reducible rfl
                                try simp only [Act.put, List.setIfInBounds_toArray, List.set_cons_zero, List.set_cons_succ]
                                refine wpAnyH_ready (rs := [10]) (by kernel_rfl) (by simp) (allReady_at rfl (fun K' hK => ?_))
                                obtain ⟨⟨q0, q1, q2, q3⟩, f0, f1, f2, f3⟩ := four p4.ib
                                go_simp
                                have p5 := p4.put (ws' := (words y.data).take (k + 1)) (v' := .slice pp nn cc) h9' n1 (by rw [HX.out]; simpa [wordV] using hown)
                                have h5 : ImS w E F b8 y b9 A0 K _ := p5.s
                                refine hK.out _ _ h5 (fun _ => ?_)
                                clear hK K'
                                try simp only [Act.put, List.setIfInBounds_toArray, List.set_cons_zero, List.set_cons_succ]
                                refine wpAnyH_done (by kernel_rfl) ?_ _
                                refine NoPanic.normal ?_
                                go_wp2_with fail
                                go_roundg q
                                case measure => omega
                                case rel => exact ⟨k + 1, _, by omega, by simp, p5⟩
                              · go_simp
                                refine (rnum4_any y.data (4 * k) (by omega) hdy _ (by omega) _).mono ?_
                                rintro e w1 ⟨he, rfl⟩
                                rw [HX'.out] at he
                                subst he
                                dsimp only
                                have h1 : ImS w E F b8 y b9 A0 K _ := h0
                                refine hK.out _ _ h1 (fun _ => ?_)
                                clear hK K'
                                try simp only [Act.put, List.setIfInBounds_toArray, List.set_cons_zero, List.set_cons_succ]
                                refine wpAnyH_takeAt (i := 6) (v := .int .u32 (x' : Int)) rfl (by kernel_rfl) (by kernel_rfl) (by kernel_rfl) (fun _ _ _ h => h) (Or.inl ⟨by rfl, ?_⟩) h1 ?_
                                · intro w' hS; clear hS
                                  go_simp
                                try simp only [Act.put, List.setIfInBounds_toArray, List.set_cons_zero, List.set_cons_succ]
                                refine wpAnyH_ready (rs := [1, 7]) (by kernel_rfl) (by simp) (AllReadyH.cons (at_drop rfl) (fun K' hK => ?_) (allReady_at rfl (fun K' hK => ?_)))
                                · obtain ⟨⟨i0, i1, i2, i3⟩, _⟩ := four p0.ib
                                  go_simp
                                  clear i0 i1 i2 i3
                                  have g1 : ImS w E F b8 y b9 A0 K _ := p0.s
                                  refine hK.out _ _ g1 (fun _ => ?_)
                                  clear hK K'
                                  try simp only [Act.put, List.setIfInBounds_toArray, List.set_cons_zero, List.set_cons_succ]
                                  refine wpAnyH_ready (rs := [7]) (by kernel_rfl) (by simp) (allReady_at rfl (fun K' hK => ?_))
                                  go_simp
                                  have p1 := (hz.below ((Below.refl _ _).alloc (Nat.le_refl _) (.cells #[.int .u32 (x' : Int)] 22))).drew
                                  have h2 : ImS w E F b8 y b9 A0 K _ := p1.s
                                  refine hK.out _ _ h2 (fun _ => ?_)
                                  clear hK K'
                                  try simp only [Act.put, List.setIfInBounds_toArray, List.set_cons_zero, List.set_cons_succ]
                                  refine wpAnyH_ready (rs := [8]) (by kernel_rfl) (by simp) (allReady_at rfl (fun K' hK => ?_))
                                  rw [if_pos (by rfl)]
                                  refine wp_append_own _ _ _ 27 rfl w.heap.size 22 i0 (.int .u32 0) 1 4 Try.underlying27 hi hz0 hz1 hz2 rfl (by decide) (.slice pv k cv) ((words y.data).take k).length (((words y.data).take k).map wordV) rfl p1.own ⟨wz.heap.size, 0, none⟩ 1 1 [.int .u32 (x' : Int)] rfl rfl (Go.cell_one_new wz.drew _ _) (by simp [Value.oneCell']) (by rw [List.length_take]; unfold maxLen; omega) (by rw [List.length_take]; omega) (by have := p1.low.size; simp at this ⊢; omega) ?_
                                  intro v' w4 hown hgrow _
                                  obtain ⟨pp, nn, cc, rfl⟩ := own_slice hown
                                  have p4 := p1.grown hgrow
                                  have h4 : ImS w E F b8 y b9 A0 K w4 := p4.s
                                  refine hK.out _ _ h4 (fun _ => ?_)
                                  clear hK K'
                                  try simp only [Act.put, List.setIfInBounds_toArray, List.set_cons_zero, List.set_cons_succ]
                                  refine wpAnyH_takeAt (i := 9) (v := ?_) rfl (by kernel_rfl) (by kernel_rfl) (by kernel_rfl) (fun _ _ _ h => h) (Or.inl ⟨by rfl, ?_⟩) h4 ?_
                                  rotate_left 1
                                  · intro w' hS; clear hS
                                    go_simp <;> with_reducible rfl
                                  try simp only [Act.put, List.setIfInBounds_toArray, List.set_cons_zero, List.set_cons_succ]
                                  refine wpAnyH_ready (rs := [10]) (by kernel_rfl) (by simp) (allReady_at rfl (fun K' hK => ?_))
                                  obtain ⟨⟨q0, q1, q2, q3⟩, f0, f1, f2, f3⟩ := four p4.ib
                                  go_simp
                                  have p5 := p4.put (ws' := (words y.data).take (k + 1)) (v' := .slice pp nn cc) h9' n1 (by rw [HX.out]; simpa [wordV] using hown)
                                  have h5 : ImS w E F b8 y b9 A0 K _ := p5.s
                                  refine hK.out _ _ h5 (fun _ => ?_)
                                  clear hK K'
                                  try simp only [Act.put, List.setIfInBounds_toArray, List.set_cons_zero, List.set_cons_succ]
                                  refine wpAnyH_done (by kernel_rfl) ?_ _
                                  refine NoPanic.normal ?_
                                  go_wp2_with fail
                                  go_roundg q
                                  case measure => omega
                                  case rel => exact ⟨k + 1, _, by omega, by simp, p5⟩
                                · go_simp
                                  have p1 := (hz.below ((Below.refl _ _).alloc (Nat.le_refl _) (.cells #[.int .u32 (x' : Int)] 22))).drew
                                  have h2 : ImS w E F b8 y b9 A0 K _ := p1.s
                                  refine hK.out _ _ h2 (fun _ => ?_)
                                  clear hK K'
                                  try simp only [Act.put, List.setIfInBounds_toArray, List.set_cons_zero, List.set_cons_succ]
                                  refine wpAnyH_ready (rs := [1]) (by kernel_rfl) (by simp) (allReady_at rfl (fun K' hK => ?_))
                                  obtain ⟨⟨i0, i1, i2, i3⟩, _⟩ := four p1.ib
                                  go_simp
                                  clear i0 i1 i2 i3
                                  have g1 : ImS w E F b8 y b9 A0 K _ := p1.s
                                  refine hK.out _ _ g1 (fun _ => ?_)
                                  clear hK K'
                                  try simp only [Act.put, List.setIfInBounds_toArray, List.set_cons_zero, List.set_cons_succ]
                                  refine wpAnyH_ready (rs := [8]) (by kernel_rfl) (by simp) (allReady_at rfl (fun K' hK => ?_))
                                  rw [if_pos (by rfl)]
                                  refine wp_append_own _ _ _ 27 rfl w.heap.size 22 i0 (.int .u32 0) 1 4 Try.underlying27 hi hz0 hz1 hz2 rfl (by decide) (.slice pv k cv) ((words y.data).take k).length (((words y.data).take k).map wordV) rfl p1.own ⟨wz.heap.size, 0, none⟩ 1 1 [.int .u32 (x' : Int)] rfl rfl (Go.cell_one_new wz.drew _ _) (by simp [Value.oneCell']) (by rw [List.length_take]; unfold maxLen; omega) (by rw [List.length_take]; omega) (by have := p1.low.size; simp at this ⊢; omega) ?_
                                  intro v' w4 hown hgrow _
                                  obtain ⟨pp, nn, cc, rfl⟩ := own_slice hown
                                  have p4 := p1.grown hgrow
                                  have h4 : ImS w E F b8 y b9 A0 K w4 := p4.s
                                  refine hK.out _ _ h4 (fun _ => ?_)
                                  clear hK K'
                                  try simp only [Act.put, List.setIfInBounds_toArray, List.set_cons_zero, List.set_cons_succ]
                                  refine wpAnyH_takeAt (i := 9) (v := ?_) rfl (by kernel_rfl) (by kernel_rfl) (by kernel_rfl) (fun _ _ _ h => h) (Or.inl ⟨by rfl, ?_⟩) h4 ?_
                                  rotate_left 1
                                  · intro w' hS; clear hS
                                    go_simp <;> with_reducible rfl
                                  try simp only [Act.put, List.setIfInBounds_toArray, List.set_cons_zero, List.set_cons_succ]
                                  refine wpAnyH_ready (rs := [10]) (by kernel_rfl) (by simp) (allReady_at rfl (fun K' hK => ?_))
                                  obtain ⟨⟨q0, q1, q2, q3⟩, f0, f1, f2, f3⟩ := four p4.ib
                                  go_simp
                                  have p5 := p4.put (ws' := (words y.data).take (k + 1)) (v' := .slice pp nn cc) h9' n1 (by rw [HX.out]; simpa [wordV] using hown)
                                  have h5 : ImS w E F b8 y b9 A0 K _ := p5.s
                                  refine hK.out _ _ h5 (fun _ => ?_)
                                  clear hK K'
                                  try simp only [Act.put, List.setIfInBounds_toArray, List.set_cons_zero, List.set_cons_succ]
                                  refine wpAnyH_done (by kernel_rfl) ?_ _
                                  refine NoPanic.normal ?_
                                  go_wp2_with fail
                                  go_roundg q
                                  case measure => omega
                                  case rel => exact ⟨k + 1, _, by omega, by simp, p5⟩
                    · have hq1 : (E % 4 != 0) = true := bne_iff_ne.2 e1
                      have e0 := of_71 HC.out HTT.out HG.out (by unfold entryIn; exact decide_eq_false (fun h => by have := HEn.out; have := h.1; omega))
                      have HE0 := hideE e0
                      have HE1 := hideE (of_not (x := x) (by rw [e0]; decide))
                      clear e0 e1
                      have hXw := HXw.out
                      have hwe := Hwe.out
                      go_upto_region 17 with (fail)
                      go_wp2_with (first
                        | (refine wpList_store_row rfl 29 _ _ rfl (w.heap.size + 1) _ rfl rfl _ Z4 hrs (by kernel_rfl) rfl (by kernel_rfl) ?_))
                      exact bodyPost_ret (results_row_tmpE (p := 2) (u := 3) (by kernel_rfl) _ _ (w.heap.size + 1) _ _ _ _ rfl (setRow_heap _ _ _ _ _ _ hrs) Try.underlying29 rfl (by kernel_rfl)) rfl ⟨.slice none 0 0, by rw [HE0.out, HE1.out]; rfl, by rw [HE1.out]; exact World.ownsRow_nil _ _ _ _, below_setRowE HB.out.at'.low (by omega) _⟩
                  · have hq5 : (y.size != (y.data.length : Int)) = true := bne_iff_ne.2 c5
                    have e0 := of_70 HC.out (by rw [HT.out]; unfold ofW; exact decide_eq_false (fun h => c5 h.2.2.2.2))
                    have HE0 := hideE e0
                    have HE1 := hideE (of_not (x := x) (by rw [e0]; decide))
                    clear e0 c5
                    have hXw := HXw.out
                    have hwe := Hwe.out
                    go_upto_region 15 with (fail)
                    go_wp2_with (first
                      | (refine wpList_store_row rfl 29 _ _ rfl (w.heap.size + 1) _ rfl rfl _ Z4 hrs (by kernel_rfl) rfl (by kernel_rfl) ?_))
                    exact bodyPost_ret (results_row_tmpE (p := 2) (u := 3) (by kernel_rfl) _ _ (w.heap.size + 1) _ _ _ _ rfl (setRow_heap _ _ _ _ _ _ hrs) Try.underlying29 rfl (by kernel_rfl)) rfl ⟨.slice none 0 0, by rw [HE0.out, HE1.out]; rfl, by rw [HE1.out]; exact World.ownsRow_nil _ _ _ _, below_setRowE HB.out.at'.low (by omega) _⟩
                · have hc4 : y.data = [] := List.eq_nil_of_length_eq_zero (by omega)
                  have e0 := of_70 HC.out (by rw [HT.out]; unfold ofW; exact decide_eq_false (fun h => c4 h.2.2.2.1))
                  have HE0 := hideE e0
                  have HE1 := hideE (of_not (x := x) (by rw [e0]; decide))
                  clear e0 c4 hdy hy1
                  have hXw := HXw.out
                  have hwe := Hwe.out
                  go_upto_region 15 with (fail)
                  go_wp2_with (first
                    | (refine wpList_store_row rfl 29 _ _ rfl (w.heap.size + 1) _ rfl rfl _ Z4 hrs (by kernel_rfl) rfl (by kernel_rfl) ?_))
                  exact bodyPost_ret (results_row_tmpE (p := 2) (u := 3) (by kernel_rfl) _ _ (w.heap.size + 1) _ _ _ _ rfl (setRow_heap _ _ _ _ _ _ hrs) Try.underlying29 rfl (by kernel_rfl)) rfl ⟨.slice none 0 0, by rw [HE0.out, HE1.out]; rfl, by rw [HE1.out]; exact World.ownsRow_nil _ _ _ _, below_setRowE HB.out.at'.low (by omega) _⟩
              · have hq3 : ((y.data.length : Int) % 4 != 0) = true := bne_iff_ne.2 c3
                have e0 := of_70 HC.out (by rw [HT.out]; unfold ofW; exact decide_eq_false (fun h => c3 (by have := h.2.2.1; omega)))
                have HE0 := hideE e0
                have HE1 := hideE (of_not (x := x) (by rw [e0]; decide))
                clear e0 c3
                have hXw := HXw.out
                have hwe := Hwe.out
                go_upto_region 15 with (fail)
                go_wp2_with (first
                  | (refine wpList_store_row rfl 29 _ _ rfl (w.heap.size + 1) _ rfl rfl _ Z4 hrs (by kernel_rfl) rfl (by kernel_rfl) ?_))
                exact bodyPost_ret (results_row_tmpE (p := 2) (u := 3) (by kernel_rfl) _ _ (w.heap.size + 1) _ _ _ _ rfl (setRow_heap _ _ _ _ _ _ hrs) Try.underlying29 rfl (by kernel_rfl)) rfl ⟨.slice none 0 0, by rw [HE0.out, HE1.out]; rfl, by rw [HE1.out]; exact World.ownsRow_nil _ _ _ _, below_setRowE HB.out.at'.low (by omega) _⟩
            · have hq2 : ((y.addr.toNat : Int) % 4 != 0) = true := bne_iff_ne.2 c2
              have e0 := of_70 HC.out (by rw [HT.out]; unfold ofW; exact decide_eq_false (fun h => c2 (by have := h.2.1; omega)))
              have HE0 := hideE e0
              have HE1 := hideE (of_not (x := x) (by rw [e0]; decide))
              clear e0 c2
              have hXw := HXw.out
              have hwe := Hwe.out
              go_upto_region 15 with (fail)
              go_wp2_with (first
                | (refine wpList_store_row rfl 29 _ _ rfl (w.heap.size + 1) _ rfl rfl _ Z4 hrs (by kernel_rfl) rfl (by kernel_rfl) ?_))
              exact bodyPost_ret (results_row_tmpE (p := 2) (u := 3) (by kernel_rfl) _ _ (w.heap.size + 1) _ _ _ _ rfl (setRow_heap _ _ _ _ _ _ hrs) Try.underlying29 rfl (by kernel_rfl)) rfl ⟨.slice none 0 0, by rw [HE0.out, HE1.out]; rfl, by rw [HE1.out]; exact World.ownsRow_nil _ _ _ _, below_setRowE HB.out.at'.low (by omega) _⟩
          · have hXm : (X : Int).tmod 2 = 1 := by rw [Int.tmod_eq_emod_of_nonneg (by omega)]; omega
            have e0 := of_70 HC.out (by rw [HT.out]; unfold ofW; exact decide_eq_false (fun h => c1 h.1))
            have HE0 := hideE e0
            have HE1 := hideE (of_not (x := x) (by rw [e0]; decide))
            clear e0 c1
            have hXw := HXw.out
            have hwe := Hwe.out
            go_upto_region 15 with (fail)
            go_wp2_with (first
              | (refine wpList_store_row rfl 29 _ _ rfl (w.heap.size + 1) _ rfl rfl _ Z4 hrs (by kernel_rfl) rfl (by kernel_rfl) ?_))
            exact bodyPost_ret (results_row_tmpE (p := 2) (u := 3) (by kernel_rfl) _ _ (w.heap.size + 1) _ _ _ _ rfl (setRow_heap _ _ _ _ _ _ hrs) Try.underlying29 rfl (by kernel_rfl)) rfl ⟨.slice none 0 0, by rw [HE0.out, HE1.out]; rfl, by rw [HE1.out]; exact World.ownsRow_nil _ _ _ _, below_setRowE HB.out.at'.low (by omega) _⟩
        · have hne : ((cnt l : Int) != 1) = true := bne_iff_ne.2 fun e => h1 (by omega)
          have e0 := of_70 HC.out (by rw [HL.out]; exact (notText h1).1)
          have HE0 := hideE e0
          have HE1 := hideE (of_not (x := x) (by rw [e0]; decide))
          have hrs := hA.res
          have HA := hideE hA
          clear e0 hA h1
          go_wp2_with (first
            | (refine wpList_store_row rfl 29 _ _ rfl (w.heap.size + 1) _ rfl rfl _ Z4 hrs (by kernel_rfl) rfl (by kernel_rfl) ?_))
          exact bodyPost_ret (results_row_tmpE (p := 2) (u := 3) (by kernel_rfl) _ _ (w.heap.size + 1) _ _ _ _ rfl (setRow_heap _ _ _ _ _ _ hrs) Try.underlying29 rfl (by kernel_rfl)) rfl ⟨.slice none 0 0, by rw [HE0.out, HE1.out]; rfl, by rw [HE1.out]; exact World.ownsRow_nil _ _ _ _, below_setRowE HA.out.low (by omega) _⟩
      | succ q =>
        have hk : ((k : Int) < (l.length : Int)) := by omega
        have hk0 : (0 : Int) ≤ (k : Int) := by omega
        have hwk : IntKind.i64.wrap ((k : Int) + 1) = (k : Int) + 1 := wrE (by omega) (by omega)
        have hcl := cntR_le l k
        have hwc : IntKind.i64.wrap ((cntR l k : Int) + 1) = (cntR l k : Int) + 1 := wrE (by omega) (by omega)
        obtain ⟨y, hy⟩ : ∃ y, l[k]? = some y := ⟨l[k]'(by omega), List.getElem?_eq_getElem (by omega)⟩
        obtain ⟨gb, o, rfl⟩ := sls_some hA.s (by omega)
        obtain ⟨hcs, _⟩ := slsCells hA.s (by omega)
        obtain ⟨b0, b1, b2, b3⟩ := SlS.at hcs k y hy
        have hym := HM.out y (List.mem_of_getElem? hy)
        have htm : y.flags.tmod 2 = y.flags % 2 := Int.tmod_eq_emod_of_nonneg hym.2.2.2.1
        have HR := hideE (runAt_of hy)
        have HA := hideE hA
        clear hy hcs hA hym
        by_cases hf : y.flags % 2 = 1
        · rw [hf] at htm
          have HF := hideE hf
          clear hf
          go_wp2_with fail
          go_roundg q
          case measure => omega
          case rel =>
            have e : runAt l k = true := by rw [HR.out]; exact decide_eq_true HF.out
            exact ⟨k + 1, _, by omega, rfl, fun _ => by rw [lastR_succ, if_pos e], by rw [cntR_succ, if_pos e]; simp, by simp, HA.out⟩
        · have e : runAt l k = false := by rw [HR.out]; exact decide_eq_false hf
          rw [show y.flags % 2 = 0 by omega] at htm
          have HE := hideE e
          clear hf e
          go_wp2_with fail
          go_roundg q
          case measure => omega
          case rel =>
            exact ⟨k + 1, z, by omega, rfl, by rw [cntR_succ, lastR_succ, if_neg (by rw [HE.out]; simp), if_neg (by rw [HE.out]; simp)]; exact HZ.out, by rw [cntR_succ, if_neg (by rw [HE.out]; simp)], by simp, HA.out⟩
  · have HE0 := hideE (of_chk (x := x) (by rw [HL.out]; exact h0))
    have HE1 := hideE (of_not (x := x) (by rw [HE0.out, HL.out]; exact h0))
    have hq : (chk l != 0) = true := bne_iff_ne.2 h0
    have hrs := n1.res
    have HN := hideE n1
    clear n1 h0
    generalize hk : chk l = k at *
    have HKK := hideE hk
    clear hk
    go_wp2_with (first
      | (refine wpList_store_row rfl 29 _ _ rfl (w.heap.size + 1) _ rfl rfl _ Z4 hrs (by kernel_rfl) rfl (by kernel_rfl) ?_))
    exact bodyPost_ret (results_row_tmpE (p := 2) (u := 3) (by kernel_rfl) _ _ (w.heap.size + 1) _ _ _ _ rfl (setRow_heap _ _ _ _ _ _ hrs) Try.underlying29 rfl (by kernel_rfl)) rfl ⟨.slice none 0 0, by rw [HE0.out, HE1.out, HL.out, HKK.out]; rfl, by rw [HE1.out]; exact World.ownsRow_nil _ _ _ _, below_setRowE HN.out.low (by omega) _⟩
end Go.Proofs.Ytkfomhllaogplaa
