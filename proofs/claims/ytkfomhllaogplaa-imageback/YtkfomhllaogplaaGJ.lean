/-
  Contract of package image's With, walked.
-/
import Derived.Test.YtkfomhllaogplaaGI
import Derived.Deep.CutRange
namespace Go.Proofs.Ytkfomhllaogplaa
open Go.RowKit El Go.Lib
open Classical
set_option linter.unusedSimpArgs false
set_option linter.unusedVariables false

/-- While With is at work, ahead of the copy. -/
structure Wi0 (w : World) (E F : Int) (v : Value) (l : List Seg) (lv : Value) (ws : List Nat) (W : World) : Prop where
  box : W.heap[w.heap.size]? = some (.cells #[.int .u32 E, .int .u32 F, v] 25 (0, 0))
  res : W.heap[w.heap.size + 1]? = some (.cells Z3 25 (0, 0))
  s : SlS W v l
  lw : SlW W lv ws
  low : Below w.heap.size w W
theorem Wi0.below {w W W' : World} {E F : Int} {v : Value} {l : List Seg} {lv : Value} {ws : List Nat} (h : Wi0 w E F v l lv ws W) (hb : Below W.heap.size W W') : Wi0 w E F v l lv ws W' :=
  ⟨keptN hb h.box, keptN hb h.res, h.s.below hb, h.lw.below hb, h.low.trans (hb.mono h.low.size)⟩
theorem Wi0.new {w : World} {E F : Int} {v : Value} {l : List Seg} {lv : Value} {ws : List Nat} (h : SlS w v l) (hl : SlW w lv ws) : Wi0 w E F v l lv ws ((w.alloc (.cells #[.int .u32 E, .int .u32 F, v] 25)).alloc (.cells Z3 25)) := by
  have b1 : Below w.heap.size w (w.alloc (.cells #[.int .u32 E, .int .u32 F, v] 25)) := (Below.refl _ w).alloc (Nat.le_refl _) _
  have b2 := b1.alloc (by simp) (.cells Z3 25)
  refine ⟨keptN ((Below.refl _ _).alloc (Nat.le_refl _) _) (heap_alloc_new w _), ?_, h.below b2, hl.below b2, b2⟩
  have := heap_alloc_new (w.alloc (.cells #[.int .u32 E, .int .u32 F, v] 25)) (.cells Z3 25)
  rwa [World.size_alloc] at this
structure Wi1 (w : World) (E F : Int) (v : Value) (l : List Seg) (lv : Value) (ws : List Nat) (b : Nat) (cs : Array Value) (W : World) : Prop where
  at' : Wi0 w E F v l lv ws W
  ib : W.heap[b]? = some (.cells cs 29 (0, 0))
theorem Wi1.below {w W W' : World} {E F : Int} {v : Value} {l : List Seg} {lv : Value} {ws : List Nat} {b : Nat} {cs : Array Value} (h : Wi1 w E F v l lv ws b cs W) (hb : Below W.heap.size W W') : Wi1 w E F v l lv ws b cs W' :=
  ⟨h.at'.below hb, keptN hb h.ib⟩
theorem WiAt.str {w W : World} {E F : Int} {l : List Seg} {b6 : Nat} {cs : Array Value} {b8 g c K : Nat} {lv : Value} {ws : List Nat} (h : WiAt w E F (.slice (some ⟨g, 0, none⟩) l.length c) l b6 cs b8 lv ws W) {x : Seg} (hx : l[K]? = some x) : W.cell? ⟨g, K * 4 + 1, none⟩ = some (.string ⟨x.data.toArray⟩) ∧ W.frozen? ⟨g, K * 4 + 1, none⟩ = false := by
  have hk := (List.getElem?_eq_some_iff.1 hx).1
  have hS := sls_of_owns h.own
  have := (SlS.at (slsCells hS (by omega)).1 K x hx).2.1
  rw [Nat.zero_add] at this
  refine ⟨this, ?_⟩
  rcases h.own.2 with ⟨e, _⟩ | ⟨g', cap, cur, e, _, hc, _⟩
  · cases e
  · injection e with e1
    injection e1 with e1
    injection e1 with e1
    subst e1
    simp [World.frozen?, hc]
/-- The boxes alone. -/
structure WiB (w : World) (E F : Int) (v : Value) (b6 : Nat) (cs : Array Value) (b8 : Nat) (W : World) : Prop where
  res : W.heap[w.heap.size + 1]? = some (.cells Z3 25 (0, 0))
  ib : W.heap[b6]? = some (.cells cs 29 (0, 0))
  yb : W.heap[b8]? = some (.cells #[.int .u32 E, .int .u32 F, v] 25 (0, 0))
theorem WiAt.b {w W : World} {E F : Int} {v : Value} {l : List Seg} {b6 : Nat} {cs : Array Value} {b8 : Nat} {lv : Value} {ws : List Nat} (h : WiAt w E F v l b6 cs b8 lv ws W) : WiB w E F v b6 cs b8 W := ⟨h.res, h.ib, h.yb⟩
structure WiEnd (w : World) (v : Value) (E F : Int) (l : List Seg) (b6 : Nat) (cs : Array Value) (b8 : Nat) (W : World) : Prop where
  res : W.heap[w.heap.size + 1]? = some (.cells Z3 25 (0, 0))
  ib : W.heap[b6]? = some (.cells cs 29 (0, 0))
  yb : W.heap[b8]? = some (.cells #[.int .u32 E, .int .u32 F, v] 25 (0, 0))
  own : W.ownsRow (w.heap.size + 2) 42 4 v l.length (csS l)
  low : Below w.heap.size w W
theorem WiEnd.b {w W : World} {E F : Int} {v : Value} {l : List Seg} {b6 : Nat} {cs : Array Value} {b8 : Nat} (h : WiEnd w v E F l b6 cs b8 W) : WiB w E F v b6 cs b8 W := ⟨h.res, h.ib, h.yb⟩
theorem WiAt.fin {w W : World} {E F : Int} {l : List Seg} {b6 : Nat} {cs : Array Value} {b8 g c K : Nat} {lv : Value} {ws : List Nat} (h : WiAt w E F (.slice (some ⟨g, 0, none⟩) l.length c) l b6 cs b8 lv ws W) (hK : K < l.length) (s : List UInt8) :
    WiEnd w (.slice (some ⟨g, 0, none⟩) l.length c) E F (setD l K s) b6 cs b8 (W.setCell ⟨g, K * 4 + 1, none⟩ (.string ⟨s.toArray⟩)) := by
  have hgg : w.heap.size + 2 ≤ g ∧ ∃ cur, W.heap[g]? = some (.cells cur 42 (0, 0)) := by
    rcases h.own.2 with ⟨e, _⟩ | ⟨g', cap, cur, e, h2, h3, _⟩
    · cases e
    · injection e with e1 e2 e3
      injection e1 with e1
      injection e1 with e1
      subst e1
      exact ⟨h2, _, h3⟩
  obtain ⟨hg2, cur, hcur⟩ := hgg
  have ne : ∀ {b : Nat} {cs : Array Value} {t : TypeId}, W.heap[b]? = some (.cells cs t (0, 0)) → 42 ≠ t → b ≠ g := fun {b cs t} hb ht e => by
    subst e; rw [hcur] at hb; injection hb with hb; injection hb with _ hb; exact ht hb
  refine ⟨?_, ?_, ?_, ?_, h.low.setCell (by simp; omega) _⟩
  · rw [set_other _ _ _ _ (by exact ne h.res (by decide))]; exact h.res
  · rw [set_other _ _ _ _ (by exact ne h.ib (by decide))]; exact h.ib
  · rw [set_other _ _ _ _ (by exact ne h.yb (by decide))]; exact h.yb
  · rw [setD_len]; exact own_setD h.own rfl hK s
set_option maxRecDepth 100000 in
set_option maxHeartbeats 8000000 in
theorem with_any (x : Prg) (v lv : Value) (ws : List Nat) (hfit : ∀ g ∈ x.segs, Fits g) (hd : ∀ g ∈ x.segs, g.data.length ≤ 4000000) (hw : ∀ n ∈ ws, n < 4294967296) (w : World) (hS : SlS w v x.segs) (hL : SlW w lv ws) :
    Calls Try.prog 16 #[prgV x v, lv] w fun e w' => ∃ u, e = .returned (.tuple #[prgV (wV x ws) u, .int .i64 (wE x ws.length)]) ∧ w'.ownsRow w.heap.size 42 4 u (wV x ws).segs.length (csS (wV x ws).segs) ∧ Below w.heap.size w w' := by
  obtain ⟨p0, c, rfl, _⟩ := hS.len
  obtain ⟨pl, cl, rfl, _⟩ := hL.len
  obtain ⟨E, hE⟩ : ∃ E : Int, (x.entry.toNat : Int) = E := ⟨_, rfl⟩
  obtain ⟨F, hF⟩ : ∃ F : Int, (x.flags.toNat : Int) = F := ⟨_, rfl⟩
  have n0 := Wi0.new (E := E) (F := F) hS hL
  have HOf := hideE (of_any x _ hfit hd _ n0.s)
  obtain ⟨⟨a0, a1, a2⟩, _⟩ := three n0.box
  have HN := hideE n0
  have HD := hideE hd
  have HFi := hideE hfit
  have HW := hideE hw
  simp only [prgV, imgV] at HOf ⊢
  rw [hE, hF] at HOf
  obtain ⟨l, hLl⟩ : ∃ l, x.segs = l := ⟨_, rfl⟩
  have HL := hideE hLl
  have HE := hideE hE
  have HF := hideE hF
  rw [hE, hF]
  clear hS hL hd hfit n0 hw
  rw [hLl] at HN HD HFi a2 HOf ⊢
  clear hLl hE hF
  go_enter Try.func16, Try.ntmps16
  go_wp2_with fail
  refine HOf.out.mono ?_
  rintro e w1 ⟨u, rfl, hown, hb1⟩
  have n1 := HN.out.below hb1
  clear HOf HN a0 a1 a2
  obtain ⟨⟨a0, a1, a2⟩, _⟩ := three n1.box
  obtain ⟨p', c', rfl⟩ := own_slice' hown
  have HO := hideE hown
  have HB := hideE hb1
  clear hown hb1
  have key : ∀ cs, Wi1 w E F (.slice p0 l.length c) l (.slice pl ws.length cl) ws w1.heap.size cs ((w1.alloc (.cells Z4 29)).setRow w1.heap.size cs) := fun cs =>
    ⟨n1.below (below_setRowE ((Below.refl _ w1).alloc (Nat.le_refl _) _) (Nat.le_refl _) _), setRow_heap _ _ _ _ _ _ (heap_alloc_new w1 _)⟩
  have KEY := hideE key
  have hsz : w.heap.size + 2 ≤ w1.heap.size := by have := HB.out.size; simp at this; omega
  have HSZ := hideE hsz
  clear n1 hsz key
  by_cases h0 : ofE x = 0
  · obtain ⟨hc, y, hy, hent, hi⟩ := of_zero h0
    rw [h0]
    rw [hi]
    dsimp only
    rw [HL.out] at hy
    have hym := may_of (by rw [← HL.out]; exact hc) hy.get
    have hdy := HD.out y (List.mem_of_getElem? hy.get)
    have hl16 : l.length ≤ 16 := by rw [← HL.out]; exact (chk_zero hc).1
    have hlt : txt l < l.length := (List.getElem?_eq_some_iff.1 hy.get).1
    have hwlen : (words y.data).length = y.data.length / 4 := words_len _
    have HY := hideE hy.get
    rw [HL.out] at hi ⊢
    have HK : Hid (txt x.segs = txt l) := by rw [HL.out]; rfl
    have HI := hideE hi
    have HH0 := hideE h0
    generalize txt l = K at *
    obtain ⟨A0, hA0⟩ : ∃ A0 : Int, (y.addr.toNat : Int) = A0 := ⟨_, rfl⟩
    rw [hA0, HE.out]
    obtain ⟨m, hm⟩ : ∃ m : Nat, (words y.data).length = m := ⟨_, rfl⟩
    rw [hm]
    have hK1 : (K : Int) < (l.length : Int) := by omega
    have hK0 : (0 : Int) ≤ (K : Int) := by omega
    clear hc hy hent hi h0 hA0 HO
    by_cases hmw : ws.length = m
    · have hwl : ws.length ≤ 4000000 := by omega
      subst hmw
      go_upto_region 4 with (first
        | (refine wpList_store_row rfl 29 _ _ rfl (w1.heap.size) _ rfl rfl _ Z4 (heap_alloc_new w1 _) (by kernel_rfl) rfl (by kernel_rfl) ?_))
      refine gen_world (Wi1 w E F (.slice p0 l.length c) l (.slice pl ws.length cl) ws w1.heap.size (imgC A0 E K (.slice p' ws.length c'))) (KEY.out _) ?_
      intro w2 hI
      obtain ⟨⟨i0, i1, i2, i3⟩, _⟩ := four hI.ib
      obtain ⟨⟨a0, a1, a2⟩, _⟩ := three hI.at'.box
      have HCp := hideE (copied_any x (.slice p0 l.length c) (by rw [HL.out]; omega) (by rw [HL.out]; exact HD.out) w2 (by rw [HL.out]; exact hI.at'.s))
      simp only [prgV] at HCp
      rw [HL.out, HE.out, HF.out] at HCp
      have HII := hideE hI
      clear hI KEY
      go_wp2_with fail
      refine HCp.out.mono ?_
      rintro e w3 ⟨v3, rfl, hown3, hb3⟩
      obtain ⟨p3, c3, rfl⟩ := own_slice' hown3
      obtain ⟨g, rfl⟩ := own_some hown3 (by omega)
      have hI3 := HII.out.below hb3
      have HO3 := hideE hown3
      clear HCp hown3 hb3 a0 a1 a2 i0 i1 i2 i3
      go_upto_region 7 with (first
        | (refine wpList_store_row rfl 25 _ _ rfl (w3.heap.size) _ rfl rfl _ Z3 (heap_alloc_new w3 _) (by kernel_rfl) rfl (by kernel_rfl) ?_))
      have hlow3 : w.heap.size + 2 ≤ w2.heap.size := by
        have := (Array.getElem?_eq_some_iff.1 HII.out.ib).1; have := HSZ.out; omega
      have hwi : WiAt w E F (.slice (some ⟨g, 0, none⟩) l.length c3) l w1.heap.size (imgC A0 E K (.slice p' ws.length c')) w3.heap.size (.slice pl ws.length cl) ws ((w3.alloc (.cells Z3 25)).setRow w3.heap.size #[.int .u32 E, .int .u32 F, .slice (some ⟨g, 0, none⟩) l.length c3]) := by
        have hb4 : Below w3.heap.size w3 ((w3.alloc (.cells Z3 25)).setRow w3.heap.size #[.int .u32 E, .int .u32 F, .slice (some ⟨g, 0, none⟩) l.length c3]) := below_setRowE ((Below.refl _ w3).alloc (Nat.le_refl _) _) (Nat.le_refl _) _
        exact ⟨keptN hb4 hI3.at'.res, keptN hb4 hI3.ib, setRow_heap _ _ _ _ _ _ (heap_alloc_new w3 _), own_base (ownE_below HO3.out hb4) hlow3, hI3.at'.lw.below hb4, hI3.at'.low.trans (hb4.mono hI3.at'.low.size)⟩
      refine gen_world _ hwi ?_
      intro wz hW
      clear hwi hI3
      generalize hb6 : w1.heap.size = b6 at *
      generalize hb8 : w3.heap.size = b8 at *
      generalize hiu : Value.slice p' ws.length c' = iu at *
      refine wp_region_noPanic ?_
      refine wp_region_held_drew (S := WiB w E F (.slice (some ⟨g, 0, none⟩) l.length c3) b6 (imgC A0 E K iu) b8) (by kernel_rfl) hW.drew.b (fun h0 => ?_)
      have hX0 := hW.drew
      refine wpAnyH_takeAt (i := 0) (v := ?_) rfl (by kernel_rfl) (by kernel_rfl) (by kernel_rfl) (fun _ _ _ h => h) (Or.inl ⟨by rfl, ?_⟩) h0 ?_
      rotate_left 1
      · intro w' hS; obtain ⟨⟨i0, i1, i2, i3⟩, _⟩ := four hS.ib; have y2 := (three hS.yb).1.2.2; clear hS
        go_simp <;> with_reducible rfl
      try simp only [Act.put, List.setIfInBounds_toArray, List.set_cons_zero, List.set_cons_succ]
      refine wpAnyH_takeAt (i := 1) (v := ?_) rfl (by kernel_rfl) (by kernel_rfl) (by kernel_rfl) (fun _ _ _ h => h) (Or.inl ⟨by rfl, ?_⟩) h0 ?_
      rotate_left 1
      · intro w' hS; obtain ⟨⟨i0, i1, i2, i3⟩, _⟩ := four hS.ib; have y2 := (three hS.yb).1.2.2; clear hS
        go_simp <;> with_reducible rfl
      try simp only [Act.put, List.setIfInBounds_toArray, List.set_cons_zero, List.set_cons_succ]
      refine wpAnyH_takeAt (i := 2) (v := ?_) rfl (by kernel_rfl) (by kernel_rfl) (by kernel_rfl) (fun _ _ _ h => h) (Or.inl ⟨by rfl, ?_⟩) h0 ?_
      rotate_left 1
      · intro w' hS; obtain ⟨⟨i0, i1, i2, i3⟩, _⟩ := four hS.ib; have y2 := (three hS.yb).1.2.2; clear hS
        go_simp <;> with_reducible rfl
      try simp only [Act.put, List.setIfInBounds_toArray, List.set_cons_zero, List.set_cons_succ]
      refine wpAnyH_takeAt (i := 3) (v := ?_) rfl (by kernel_rfl) (by kernel_rfl) (by kernel_rfl) (fun _ _ _ h => h) (Or.inl ⟨by rfl, ?_⟩) h0 ?_
      rotate_left 1
      · intro w' hS; obtain ⟨⟨i0, i1, i2, i3⟩, _⟩ := four hS.ib; have y2 := (three hS.yb).1.2.2; clear hS
        go_simp <;> with_reducible rfl
      try simp only [Act.put, List.setIfInBounds_toArray, List.set_cons_zero, List.set_cons_succ]
      refine wpAnyH_takeAt (i := 4) (v := ?_) rfl (by kernel_rfl) (by kernel_rfl) (by kernel_rfl) (fun _ _ _ h => h) (Or.inl ⟨by rfl, ?_⟩) h0 ?_
      rotate_left 1
      · intro w' hS; obtain ⟨⟨i0, i1, i2, i3⟩, _⟩ := four hS.ib; have y2 := (three hS.yb).1.2.2; clear hS
        go_simp <;> with_reducible rfl
      try simp only [Act.put, List.setIfInBounds_toArray, List.set_cons_zero, List.set_cons_succ]
      refine wpAnyH_ready (rs := [5]) (by kernel_rfl) (by simp) (allReady_at rfl (fun K' hK => ?_))
      go_simp
      refine (values_any pl ws.length cl _).mono ?_
      rintro e w4 ⟨rfl, rfl⟩
      dsimp only
      have hX1 := hX0.below ((Below.refl _ _).alloc (Nat.le_refl _) (.cells #[.slice pl ws.length cl] 27))
      have h1 : WiB w E F (.slice (some ⟨g, 0, none⟩) l.length c3) b6 (imgC A0 E K iu) b8 _ := hX1.b
      refine hK.out _ _ h1 (fun _ => ?_)
      clear hK K'
      try simp only [Act.put, List.setIfInBounds_toArray, List.set_cons_zero, List.set_cons_succ]
      refine wpAnyH_ready (rs := [6]) (by kernel_rfl) (by simp) (allReady_at rfl (fun K' hK => ?_))
      go_simp
      refine (written_list _ (.slice pl ws.length cl) ws hwl HW.out _ (by simp) (Go.cell_one_new wz.drew (.slice pl ws.length cl) 27 0 _ rfl) hX1.lw).mono ?_
      rintro e w5 ⟨rfl, hb5⟩
      dsimp only
      have hX2 := hX1.below hb5
      have h2 : WiB w E F (.slice (some ⟨g, 0, none⟩) l.length c3) b6 (imgC A0 E K iu) b8 w5 := hX2.b
      refine hK.out _ _ h2 (fun _ => ?_)
      clear hK K'
      try simp only [Act.put, List.setIfInBounds_toArray, List.set_cons_zero, List.set_cons_succ]
      refine wpAnyH_takeAt (i := 7) (v := ?_) rfl (by kernel_rfl) (by kernel_rfl) (by kernel_rfl) (fun _ _ _ h => h) (Or.inl ⟨by rfl, ?_⟩) h2 ?_
      rotate_left 1
      · intro w' hS; clear hS
        go_simp <;> with_reducible rfl
      try simp only [Act.put, List.setIfInBounds_toArray, List.set_cons_zero, List.set_cons_succ]
      refine wpAnyH_takeAt (i := 8) (v := ?_) rfl (by kernel_rfl) (by kernel_rfl) (by kernel_rfl) (fun _ _ _ h => h) (Or.inl ⟨by rfl, ?_⟩) h2 ?_
      rotate_left 1
      · intro w' hS; clear hS
        go_simp <;> with_reducible rfl
      try simp only [Act.put, List.setIfInBounds_toArray, List.set_cons_zero, List.set_cons_succ]
      refine wpAnyH_ready (rs := [9]) (by kernel_rfl) (by simp) (allReady_at rfl (fun K' hK => ?_))
      obtain ⟨y3, y4⟩ := hX2.str HY.out
      go_simp
      have hX3 := hX2.fin hlt (bytesW ws)
      have h3 : WiB w E F (.slice (some ⟨g, 0, none⟩) l.length c3) b6 (imgC A0 E K iu) b8 _ := hX3.b
      refine hK.out _ _ h3 (fun _ => ?_)
      clear hK K'
      try simp only [Act.put, List.setIfInBounds_toArray, List.set_cons_zero, List.set_cons_succ]
      refine wpAnyH_done (by kernel_rfl) ?_ _
      refine NoPanic.normal ?_
      clear h0 h1 h2 h3 hX0 hX1 hX2 hb5 y3 y4
      refine gen_world _ hX3 ?_
      intro wq hQ
      have hyb := hQ.yb
      have hrs := hQ.res
      have HQ := hideE hQ
      clear hQ hX3 hW
      go_wp2_with (first
        | (refine wpList_load_row rfl 25 _ rfl b8 rfl _ _ _ _ hyb Try.underlying25 rfl (by kernel_rfl) ?_)
        | (refine wpList_store_row rfl 25 _ _ rfl (w.heap.size + 1) _ rfl rfl _ Z3 hrs (by kernel_rfl) rfl (by kernel_rfl) ?_))
      have hz := w_zero HH0.out (show ws.length = (imgOf x).words.length by rw [HI.out]; exact hm.symm)
      exact bodyPost_ret (results_row_tmpE (p := 4) (u := 5) (by kernel_rfl) _ _ (w.heap.size + 1) _ _ _ _ rfl (setRow_heap _ _ _ _ _ _ hrs) Try.underlying25 rfl (by kernel_rfl)) rfl ⟨.slice (some ⟨g, 0, none⟩) l.length c3, by rw [hz.1, hz.2]; unfold putW; rw [HE.out, HF.out]; rfl, by rw [hz.2]; show World.ownsRow _ _ _ _ _ (setD x.segs (txt x.segs) _).length (csS (setD x.segs (txt x.segs) _)) ; rw [HK.out, HL.out]; exact own_base (own_other HQ.out.own (fun g hg => setRow_other _ _ _ _ (by omega))) (by omega), below_setRowE HQ.out.low (by omega) _⟩
    · have hmw' : ((ws.length : Int) != (m : Int)) = true := bne_iff_ne.2 fun e => hmw (by omega)
      have hz := w_arg (x := x) (l := ws) HH0.out (by rw [HI.out]; exact fun e => hmw (e.trans hm))
      have HZ1 := hideE hz.1
      have HZ2 := hideE hz.2
      have HMW := hideE hmw
      clear hz hmw
      go_upto_region 4 with (first
        | (refine wpList_store_row rfl 29 _ _ rfl (w1.heap.size) _ rfl rfl _ Z4 (heap_alloc_new w1 _) (by kernel_rfl) rfl (by kernel_rfl) ?_))
      refine gen_world (Wi1 w E F (.slice p0 l.length c) l (.slice pl ws.length cl) ws w1.heap.size (imgC A0 E K (.slice p' m c'))) (KEY.out _) ?_
      intro w2 hI
      obtain ⟨⟨i0, i1, i2, i3⟩, _⟩ := four hI.ib
      have hrs := hI.at'.res
      have HII := hideE hI
      clear hI KEY
      go_wp2_with (first
        | (refine wpList_store_row rfl 25 _ _ rfl (w.heap.size + 1) _ rfl rfl _ Z3 hrs (by kernel_rfl) rfl (by kernel_rfl) ?_))
      exact bodyPost_ret (results_row_tmpE (p := 4) (u := 5) (by kernel_rfl) _ _ (w.heap.size + 1) _ _ _ _ rfl (setRow_heap _ _ _ _ _ _ hrs) Try.underlying25 rfl (by kernel_rfl)) rfl ⟨.slice none 0 0, by rw [HZ1.out, HZ2.out]; rfl, by rw [HZ2.out]; exact World.ownsRow_nil _ _ _ _, below_setRowE HII.out.at'.low (by omega) _⟩
  · have hz := w_of (x := x) (l := ws) h0
    have HZ1 := hideE hz.1
    have HZ2 := hideE hz.2
    have hq : (ofE x != 0) = true := bne_iff_ne.2 h0
    have HI := hideE (of_not h0)
    rw [HI.out]
    have HO1 := HO
    clear hz h0 HO HO1
    generalize hk : ofE x = k at *
    go_upto_region 2 with (first
      | (refine wpList_store_row rfl 29 _ _ rfl (w1.heap.size) _ rfl rfl _ Z4 (heap_alloc_new w1 _) (by kernel_rfl) rfl (by kernel_rfl) ?_))
    refine gen_world (Wi1 w E F (.slice p0 l.length c) l (.slice pl ws.length cl) ws w1.heap.size _) (KEY.out _) ?_
    intro w2 hI
    have hrs := hI.at'.res
    have HII := hideE hI
    clear hI KEY
    go_wp2_with (first
      | (refine wpList_store_row rfl 25 _ _ rfl (w.heap.size + 1) _ rfl rfl _ Z3 hrs (by kernel_rfl) rfl (by kernel_rfl) ?_))
    exact bodyPost_ret (results_row_tmpE (p := 4) (u := 5) (by kernel_rfl) _ _ (w.heap.size + 1) _ _ _ _ rfl (setRow_heap _ _ _ _ _ _ hrs) Try.underlying25 rfl (by kernel_rfl)) rfl ⟨.slice none 0 0, by rw [HZ1.out, HZ2.out]; rfl, by rw [HZ2.out]; exact World.ownsRow_nil _ _ _ _, below_setRowE HII.out.at'.low (by omega) _⟩
end Go.Proofs.Ytkfomhllaogplaa
