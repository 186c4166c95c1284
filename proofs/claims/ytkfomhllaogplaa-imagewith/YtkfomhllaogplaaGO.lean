/-
  Contract of the document's layer 7: With.
-/
import Derived.Test.YtkfomhllaogplaaGN
import Derived.Test.YtkfomhllaogplaaGJ
import Derived.Test.YtkfomhllaogplaaFB
namespace Go.Proofs.Ytkfomhllaogplaa
open Go.RowKit El Go.Lib
open Classical
set_option linter.unusedSimpArgs false
set_option linter.unusedVariables false

/-- While the document's With is at work, the segments copied. -/
structure Rw (w : World) (E F : Int) (v0 u : Value) (l : List Seg) (b6 : Nat) (cs : Array Value) (W : World) : Prop where
  box : W.heap[w.heap.size]? = some (.cells #[.int .u32 E, .int .u32 F, v0] 25 (0, 0))
  res : W.heap[w.heap.size + 1]? = some (.cells Z3 25 (0, 0))
  ib : W.heap[b6]? = some (.cells cs 29 (0, 0))
  own : W.ownsRow (w.heap.size + 2) 42 4 u l.length (csS l)
  low : Below w.heap.size w W
theorem Wi1.rw {w W W' : World} {E F : Int} {v v0 : Value} {l l' : List Seg} {lv u : Value} {ws : List Nat} {b : Nat} {cs : Array Value} (h : Wi1 w E F v l lv ws b cs W) (hu : v0.ownBlock = some W.heap.size) (hg : (W.alloc (.cells #[] 42)).grownBy W' v0.ownBlock) (ho : W'.ownsRow W.heap.size 42 4 u l'.length (csS l')) : Rw w E F v u l' b cs W' := by
  have hA := h.below ((Below.refl _ W).alloc (Nat.le_refl _) (.cells #[] 42))
  have q : ∀ {k : Nat} {o : Obj}, W.heap[k]? = some o → W'.heap[k]? = some o := fun {k o} hk => by
    have hlt := (Array.getElem?_eq_some_iff.1 hk).1
    rw [hg.block k (by simp; omega) (by rw [hu]; simp; omega), Below.heap_alloc _ _ _ hlt]; exact hk
  have hs : w.heap.size + 2 ≤ W.heap.size := by have := (Array.getElem?_eq_some_iff.1 h.at'.res).1; omega
  refine ⟨q h.at'.box, q h.at'.res, q h.ib, own_base ho hs, ?_⟩
  exact hA.at'.low.grown hg (by simp; omega) (fun k e => by rw [hu] at e; injection e with e; omega)
theorem Rw.str {w W : World} {E F : Int} {v0 : Value} {l : List Seg} {b6 : Nat} {cs : Array Value} {g c K : Nat} (h : Rw w E F v0 (.slice (some ⟨g, 0, none⟩) l.length c) l b6 cs W) {x : Seg} (hx : l[K]? = some x) : W.cell? ⟨g, K * 4 + 1, none⟩ = some (.string ⟨x.data.toArray⟩) ∧ W.frozen? ⟨g, K * 4 + 1, none⟩ = false := by
  have hk := (List.getElem?_eq_some_iff.1 hx).1
  have hS := sls_of_owns h.own
  have := (SlS.at (slsCells hS (by omega)).1 K x hx).2.1
  rw [Nat.zero_add] at this
  refine ⟨this, ?_⟩
  rcases h.own.2 with ⟨e, _⟩ | ⟨g', cap, cur, e, _, hc, _⟩
  · cases e
  · injection e with e1
    injection e1 with e1
    injection e1 with e1
    subst e1
    simp [World.frozen?, hc]
theorem Rw.fin {w W : World} {E F : Int} {v0 : Value} {l : List Seg} {b6 : Nat} {cs : Array Value} {g c K : Nat} (h : Rw w E F v0 (.slice (some ⟨g, 0, none⟩) l.length c) l b6 cs W) (hK : K < l.length) (s : List UInt8) :
    Rw w E F v0 (.slice (some ⟨g, 0, none⟩) l.length c) (setD l K s) b6 cs (W.setCell ⟨g, K * 4 + 1, none⟩ (.string ⟨s.toArray⟩)) := by
  have hgg : w.heap.size + 2 ≤ g ∧ ∃ cur, W.heap[g]? = some (.cells cur 42 (0, 0)) := by
    rcases h.own.2 with ⟨e, _⟩ | ⟨g', cap, cur, e, h2, h3, _⟩
    · cases e
    · injection e with e1 e2 e3
      injection e1 with e1
      injection e1 with e1
      subst e1
      exact ⟨h2, _, h3⟩
  obtain ⟨hg2, cur, hcur⟩ := hgg
  have ne : ∀ {b : Nat} {cs : Array Value} {t : TypeId}, W.heap[b]? = some (.cells cs t (0, 0)) → 42 ≠ t → b ≠ g := fun {b cs t} hb ht e => by
    subst e; rw [hcur] at hb; injection hb with hb; injection hb with _ hb; exact ht hb
  refine ⟨?_, ?_, ?_, ?_, h.low.setCell (by simp; omega) _⟩
  · rw [set_other _ _ _ _ (by exact ne h.box (by decide))]; exact h.box
  · rw [set_other _ _ _ _ (by exact ne h.res (by decide))]; exact h.res
  · rw [set_other _ _ _ _ (by exact ne h.ib (by decide))]; exact h.ib
  · rw [setD_len]; exact own_setD h.own rfl hK s
theorem bytes_take (ws : List Nat) (k n : Nat) (h : ws[k]? = some n) : bytesW (ws.take (k + 1)) = bytesW (ws.take k) ++ numB 4 n := by
  rw [List.take_add_one, h, bytesW_app, numB_four]; simp [bytesW]
set_option maxRecDepth 100000 in
set_option maxHeartbeats 8000000 in
theorem rwith_any (x : Prg) (v lv : Value) (ws : List Nat) (hl : x.segs.length ≤ 1000) (hd : ∀ g ∈ x.segs, g.data.length ≤ 4000000) (hw : ∀ n ∈ ws, n < 4294967296) (w : World) (hS : SlS w v x.segs) (hL : SlW w lv ws) :
    Calls Try.prog 17 #[prgV x v, lv] w fun e w' => ∃ u, e = .returned (.tuple #[prgV (wV x ws) u, .int .i64 (wE x ws.length)]) ∧ w'.ownsRow w.heap.size 42 4 u (wV x ws).segs.length (csS (wV x ws).segs) ∧ Below w.heap.size w w' := by
  obtain ⟨j0, hi, hz0, hz1, hz2⟩ := info_partsE infoS
  obtain ⟨p0, c, rfl, _⟩ := hS.len
  obtain ⟨pl, cl, rfl, _⟩ := hL.len
  obtain ⟨E, hE⟩ : ∃ E : Int, (x.entry.toNat : Int) = E := ⟨_, rfl⟩
  obtain ⟨F, hF⟩ : ∃ F : Int, (x.flags.toNat : Int) = F := ⟨_, rfl⟩
  have n0 := Wi0.new (E := E) (F := F) hS hL
  have HOf := hideE (rof_any x _ hl hd _ n0.s)
  obtain ⟨⟨a0, a1, a2⟩, _⟩ := three n0.box
  have HN := hideE n0
  have HD := hideE hd
  have HW := hideE hw
  simp only [prgV, imgV] at HOf ⊢
  rw [hE, hF] at HOf
  obtain ⟨l, hLl⟩ : ∃ l, x.segs = l := ⟨_, rfl⟩
  have HL := hideE hLl
  have HE := hideE hE
  have HF := hideE hF
  rw [hE, hF]
  clear hS hL hd n0 hw hl
  rw [hLl] at HN HD a2 HOf ⊢
  clear hLl hE hF
  go_enter Try.func17, Try.ntmps17
  go_wp2_with fail
  refine HOf.out.mono ?_
  rintro e w1 ⟨u, rfl, hown, hb1⟩
  have n1 := HN.out.below hb1
  clear HOf HN a0 a1 a2
  obtain ⟨p', c', rfl⟩ := own_slice' hown
  have HB := hideE hb1
  clear hown hb1
  have key : ∀ cs, Wi1 w E F (.slice p0 l.length c) l (.slice pl ws.length cl) ws w1.heap.size cs ((w1.alloc (.cells Z4 29)).setRow w1.heap.size cs) := fun cs =>
    ⟨n1.below (below_setRowE ((Below.refl _ w1).alloc (Nat.le_refl _) _) (Nat.le_refl _) _), setRow_heap _ _ _ _ _ _ (heap_alloc_new w1 _)⟩
  have KEY := hideE key
  clear n1 key
  by_cases h0 : ofE x = 0
  · obtain ⟨hc, y, hy, hent, hi7⟩ := of_zero h0
    rw [h0]
    rw [hi7]
    dsimp only
    rw [HL.out] at hy
    have hdy := HD.out y (List.mem_of_getElem? hy.get)
    have hl16 : l.length ≤ 16 := by rw [← HL.out]; exact (chk_zero hc).1
    have hlt : txt l < l.length := (List.getElem?_eq_some_iff.1 hy.get).1
    have hwlen : (words y.data).length = y.data.length / 4 := words_len _
    have HY := hideE hy.get
    rw [HL.out] at hi7 ⊢
    have HK : Hid (txt x.segs = txt l) := by rw [HL.out]; rfl
    have HI := hideE hi7
    have HH0 := hideE h0
    generalize txt l = K at *
    obtain ⟨A0, hA0⟩ : ∃ A0 : Int, (y.addr.toNat : Int) = A0 := ⟨_, rfl⟩
    rw [hA0, HE.out]
    obtain ⟨m, hm⟩ : ∃ m : Nat, (words y.data).length = m := ⟨_, rfl⟩
    rw [hm]
    have hK1 : (K : Int) < (l.length : Int) := by omega
    have hK0 : (0 : Int) ≤ (K : Int) := by omega
    clear hc hy hent hi7 h0 hA0
    by_cases hmw : ws.length = m
    · have hwl : ws.length ≤ 4000000 := by omega
      subst hmw
      go_upto_region 4 with (first
        | (refine wpList_store_row rfl 29 _ _ rfl (w1.heap.size) _ rfl rfl _ Z4 (heap_alloc_new w1 _) (by kernel_rfl) rfl (by kernel_rfl) ?_))
      refine gen_world (Wi1 w E F (.slice p0 l.length c) l (.slice pl ws.length cl) ws w1.heap.size (imgC A0 E K (.slice p' ws.length c'))) (KEY.out _) ?_
      intro w2 hI
      clear KEY
      generalize w1.heap.size = b6 at *
      obtain ⟨⟨i0, i1, i2, i3⟩, _⟩ := four hI.ib
      have HII := hideE hI
      clear hI
      go_wp2_with fail
      clear i0 i1 i2 i3
      go_loopg [8, 9] ws.length (fun q s i wr => ∃ k : Nat, k + q = ws.length ∧ s = .string ⟨(bytesW (ws.take k)).toArray⟩ ∧ i = .int .i64 (k : Int) ∧ Wi1 w E F (.slice p0 l.length c) l (.slice pl ws.length cl) ws b6 (imgC A0 E K (.slice p' ws.length c')) wr)
      case atStart => exact ⟨0, by omega, rfl, rfl, HII.out⟩
      case round =>
        clear HII
        obtain ⟨k, hkq, rfl, rfl, hI⟩ := hrel
        cases gk with
        | zero =>
          obtain rfl : k = ws.length := by omega
          have hk : ¬ ((ws.length : Int) < (ws.length : Int)) := by omega
          rw [List.take_length]
          obtain ⟨⟨a0, a1, a2⟩, _⟩ := three hI.at'.box
          have hsl := hI.at'.s
          obtain ⟨gs, os, rfl⟩ := sls_some hsl (by omega)
          have hscs := fun j hj => (slsCells hsl (by omega)).1 j hj
          have HSC := hideE hscs
          obtain ⟨⟨_, _, a2'⟩, _⟩ := three (hI.at'.below ((Below.refl _ wr).alloc (Nat.le_refl _) (.cells #[] 42))).box
          have HII := hideE hI
          clear hI hsl hscs
          go_wp2_with (at_builtin; refine wpList_append_own _ rfl _ _ 23 rfl wr.heap.size 42 j0 (.agg #[.int .u32 0, .string ⟨#[]⟩, .int .i64 0, .int .i64 0]) 4 40 Try.underlying23 hi hz0 hz1 hz2 rfl (by decide) _ _ _ rfl (World.ownsRow_made wr #[] 0 (Nat.le_refl _) (Nat.zero_le _) (by simp)) ⟨gs, os, none⟩ l.length c (csS l) rfl ?qc1 ?qc2 ?qc3 ?qc4 ?qc5 ?qc6 ?_)
          case qc1 => exact csS_len l
          case qc2 =>
            intro j u hj
            refine Lib.cell?_alloc_some _ ?_
            rw [HSC.out j (by rw [← csS_len]; exact (List.getElem?_eq_some_iff.1 hj).1)]; exact hj
          case qc3 => exact one_cells l
          case qc4 => unfold maxLen; omega
          case qc5 => omega
          intro v' w4 hown4 hgrow4 _
          have hRw := Wi1.rw (l' := l) HII.out (v0 := _) rfl hgrow4 (by simpa using hown4)
          clear hown4 hgrow4 a0 a1 a2 a2'
          obtain ⟨p4, c4, rfl⟩ := own_slice' hRw.own
          obtain ⟨g4, rfl⟩ := own_some hRw.own (by omega)
          obtain ⟨⟨i0, i1, i2, i3⟩, _⟩ := four hRw.ib
          obtain ⟨y3, y4⟩ := hRw.str HY.out
          have HRw := hideE (hRw.fin hlt (bytesW ws))
          clear hRw
          go_upto_region 13 with (fail)
          refine gen_world _ HRw.out ?_
          intro wq hQ
          clear HRw i0 i1 i2 i3 y3 y4
          obtain ⟨⟨a0, a1, a2⟩, _⟩ := three hQ.box
          have hrs := hQ.res
          have HQ := hideE hQ
          clear hQ
          go_wp2_with (first
            | (refine wpList_store_row rfl 25 _ _ rfl (w.heap.size + 1) _ rfl rfl _ Z3 hrs (by kernel_rfl) rfl (by kernel_rfl) ?_))
          have hz := w_zero HH0.out (show ws.length = (imgOf x).words.length by rw [HI.out]; exact hm.symm)
          exact bodyPost_ret (results_row_tmpE (p := 4) (u := 5) (by kernel_rfl) _ _ (w.heap.size + 1) _ _ _ _ rfl (setRow_heap _ _ _ _ _ _ hrs) Try.underlying25 rfl (by kernel_rfl)) rfl ⟨.slice (some ⟨g4, 0, none⟩) l.length c4, by rw [hz.1, hz.2]; unfold putW; rw [HE.out, HF.out]; rfl, by rw [hz.2]; show World.ownsRow _ _ _ _ _ (setD x.segs (txt x.segs) _).length (csS (setD x.segs (txt x.segs) _)) ; rw [HK.out, HL.out]; exact own_base (own_other HQ.out.own (fun g hg => setRow_other _ _ _ _ (by omega))) (by omega), below_setRowE HQ.out.low (by omega) _⟩
        | succ q =>
          have hk : ((k : Int) < (ws.length : Int)) := by omega
          have hk0 : (0 : Int) ≤ (k : Int) := by omega
          have hwk : IntKind.i64.wrap ((k : Int) + 1) = (k : Int) + 1 := wrE (by omega) (by omega)
          obtain ⟨n, hn⟩ : ∃ n, ws[k]? = some n := ⟨ws[k]'(by omega), List.getElem?_eq_getElem (by omega)⟩
          obtain ⟨gw, ow, rfl, c3⟩ := hI.at'.lw.at hn
          have hnl := HW.out n (List.mem_of_getElem? hn)
          have hcat := cat_lists (bytesW (ws.take k)) (numB 4 n)
          rw [← bytes_take ws k n hn] at hcat
          have hblen : (bytesW (ws.take k)).length = 4 * k := by rw [bytesW_len, List.length_take]; omega
          have h4len : (numB 4 n).length = 4 := by rw [numB_four]; rfl
          have hcv : IntKind.i64.wrap (n : Int) = (n : Int) := wrE (by omega) (by omega)
          generalize hS1 : bytesW (ws.take (k + 1)) = S1 at *
          generalize hS0 : bytesW (ws.take k) = S0 at *
          generalize hN4 : numB 4 n = N4 at *
          have hlm : ¬ (9223372036854775807 < S0.length + N4.length) := by omega
          have HS1 := hideE hS1
          have HN4 := hideE hN4
          have HII := hideE hI
          clear hI hn hS1 hS0 hN4 hblen
          go_wp2_with (go_at_call 35; refine (bytes_at _ n 4 (by first | rfl | omega) (by omega) (by omega) _).mono ?_; rintro e w3 ⟨he, hb3⟩; rw [HN4.out] at he; subst he)
          go_roundg q
          case measure => omega
          case rel => exact ⟨k + 1, by omega, by rw [HS1.out], by simp, HII.out.below hb3⟩
    · have hmw' : ((ws.length : Int) != (m : Int)) = true := bne_iff_ne.2 fun e => hmw (by omega)
      have hz := w_arg (x := x) (l := ws) HH0.out (by rw [HI.out]; exact fun e => hmw (e.trans hm))
      have HZ1 := hideE hz.1
      have HZ2 := hideE hz.2
      clear hz hmw
      go_upto_region 4 with (first
        | (refine wpList_store_row rfl 29 _ _ rfl (w1.heap.size) _ rfl rfl _ Z4 (heap_alloc_new w1 _) (by kernel_rfl) rfl (by kernel_rfl) ?_))
      refine gen_world (Wi1 w E F (.slice p0 l.length c) l (.slice pl ws.length cl) ws w1.heap.size (imgC A0 E K (.slice p' m c'))) (KEY.out _) ?_
      intro w2 hI
      obtain ⟨⟨i0, i1, i2, i3⟩, _⟩ := four hI.ib
      have hrs := hI.at'.res
      have HII := hideE hI
      clear hI KEY
      go_wp2_with (first
        | (refine wpList_store_row rfl 25 _ _ rfl (w.heap.size + 1) _ rfl rfl _ Z3 hrs (by kernel_rfl) rfl (by kernel_rfl) ?_))
      exact bodyPost_ret (results_row_tmpE (p := 4) (u := 5) (by kernel_rfl) _ _ (w.heap.size + 1) _ _ _ _ rfl (setRow_heap _ _ _ _ _ _ hrs) Try.underlying25 rfl (by kernel_rfl)) rfl ⟨.slice none 0 0, by rw [HZ1.out, HZ2.out]; rfl, by rw [HZ2.out]; exact World.ownsRow_nil _ _ _ _, below_setRowE HII.out.at'.low (by omega) _⟩
  · have hz := w_of (x := x) (l := ws) h0
    have HZ1 := hideE hz.1
    have HZ2 := hideE hz.2
    have hq : (ofE x != 0) = true := bne_iff_ne.2 h0
    have HI := hideE (of_not h0)
    rw [HI.out]
    clear hz h0
    generalize hk : ofE x = k at *
    go_upto_region 2 with (first
      | (refine wpList_store_row rfl 29 _ _ rfl (w1.heap.size) _ rfl rfl _ Z4 (heap_alloc_new w1 _) (by kernel_rfl) rfl (by kernel_rfl) ?_))
    refine gen_world (Wi1 w E F (.slice p0 l.length c) l (.slice pl ws.length cl) ws w1.heap.size _) (KEY.out _) ?_
    intro w2 hI
    have hrs := hI.at'.res
    have HII := hideE hI
    clear hI KEY
    go_wp2_with (first
      | (refine wpList_store_row rfl 25 _ _ rfl (w.heap.size + 1) _ rfl rfl _ Z3 hrs (by kernel_rfl) rfl (by kernel_rfl) ?_))
    exact bodyPost_ret (results_row_tmpE (p := 4) (u := 5) (by kernel_rfl) _ _ (w.heap.size + 1) _ _ _ _ rfl (setRow_heap _ _ _ _ _ _ hrs) Try.underlying25 rfl (by kernel_rfl)) rfl ⟨.slice none 0 0, by rw [HZ1.out, HZ2.out]; rfl, by rw [HZ2.out]; exact World.ownsRow_nil _ _ _ _, below_setRowE HII.out.at'.low (by omega) _⟩
end Go.Proofs.Ytkfomhllaogplaa
