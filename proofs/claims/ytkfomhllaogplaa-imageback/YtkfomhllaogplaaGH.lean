/-
  Contract of package image's Of: a program's text.
-/
import Derived.Test.YtkfomhllaogplaaEE
import Derived.Test.YtkfomhllaogplaaEK
import Derived.Test.YtkfomhllaogplaaGE
import Derived.Test.YtkfomhllaogplaaEM
namespace Go.Proofs.Ytkfomhllaogplaa
open Go.RowKit El Go.Lib
open Classical
set_option linter.unusedSimpArgs false
set_option linter.unusedVariables false

abbrev Z4 : Array Value := #[.int .u32 0, .int .u32 0, .slice none 0 0, .int .i64 0]
theorem own_row {W : World} {B : Nat} {t t' : TypeId} {k : Nat} {v : Value} {n : Nat} {xs : List Value} (h : W.ownsRow B t k v n xs) {b : Nat} {cs : Array Value} {fr : Nat × Nat} (hb : W.heap[b]? = some (.cells cs t' fr)) (ht : t ≠ t') (cs' : Array Value) : (W.setRow b cs').ownsRow B t k v n xs := by
  refine ⟨h.1, ?_⟩
  rcases h.2 with h0 | ⟨g, cap, cur, h1, h2, h3, h4⟩
  · exact .inl h0
  · refine .inr ⟨g, cap, cur, h1, h2, ?_, h4⟩
    have hne : g ≠ b := fun e => by
      subst e; rw [h3] at hb; injection hb with hb; injection hb with _ hb; exact ht hb
    rw [setRow_other _ _ _ _ hne]; exact h3
/-- While Of is at work: its two boxes. -/
structure OfAt (w : World) (E F : Int) (v : Value) (l : List Seg) (W : World) : Prop where
  box : W.heap[w.heap.size]? = some (.cells #[.int .u32 E, .int .u32 F, v] 25 (0, 0))
  res : W.heap[w.heap.size + 1]? = some (.cells Z4 29 (0, 0))
  s : SlS W v l
  low : Below w.heap.size w W
theorem OfAt.below {w W W' : World} {E F : Int} {v : Value} {l : List Seg} (h : OfAt w E F v l W) (hb : Below W.heap.size W W') : OfAt w E F v l W' :=
  ⟨keptN hb h.box, keptN hb h.res, h.s.below hb, h.low.trans (hb.mono h.low.size)⟩
theorem OfAt.drew {w W : World} {E F : Int} {v : Value} {l : List Seg} (h : OfAt w E F v l W) : OfAt w E F v l W.drew := h.below (Below.refl _ W).drew
theorem OfAt.new {w : World} {E F : Int} {v : Value} {l : List Seg} (h : SlS w v l) : OfAt w E F v l ((w.alloc (.cells #[.int .u32 E, .int .u32 F, v] 25)).alloc (.cells Z4 29)) := by
  have b1 : Below w.heap.size w (w.alloc (.cells #[.int .u32 E, .int .u32 F, v] 25)) := (Below.refl _ w).alloc (Nat.le_refl _) _
  have b2 := b1.alloc (by simp) (.cells Z4 29)
  refine ⟨keptN ((Below.refl _ _).alloc (Nat.le_refl _) _) (heap_alloc_new w _), ?_, h.below b2, b2⟩
  have := heap_alloc_new (w.alloc (.cells #[.int .u32 E, .int .u32 F, v] 25)) (.cells Z4 29)
  rwa [World.size_alloc] at this
structure OfI (w : World) (E F : Int) (v : Value) (l : List Seg) (b : Nat) (cs : Array Value) (u : Value) (ws : List Nat) (W : World) : Prop where
  at' : OfAt w E F v l W
  ib : W.heap[b]? = some (.cells cs 29 (0, 0))
  own : W.ownsRow w.heap.size 22 1 u ws.length (ws.map wordV)
theorem entry_at (y : Seg) (e : BitVec 32) (K : Nat) (h : y.data.length % 4 = 0) : atB ⟨y.addr, e, words y.data, K⟩ e = entryIn y e := by
  unfold atB entryIn
  have := words_len y.data
  exact decide_eq_decide.2 ⟨fun ⟨a, b, c⟩ => ⟨a, b, by simp only at c; omega⟩, fun ⟨a, b, c⟩ => ⟨a, b, by simp only; omega⟩⟩
set_option maxRecDepth 100000 in
set_option maxHeartbeats 8000000 in
theorem of_any (x : Prg) (v : Value) (hfit : ∀ g ∈ x.segs, Fits g) (hd : ∀ g ∈ x.segs, g.data.length ≤ 4000000) (w : World) (hS : SlS w v x.segs) :
    Calls Try.prog 12 #[prgV x v] w fun e w' => ∃ u, e = .returned (.tuple #[imgV (imgOf x) u, .int .i64 (ofE x)]) ∧ w'.ownsRow w.heap.size 22 1 u (imgOf x).words.length ((imgOf x).words.map wordV) ∧ Below w.heap.size w w' := by
  obtain ⟨p0, c, rfl, _⟩ := hS.len
  obtain ⟨E, hE⟩ : ∃ E : Int, (x.entry.toNat : Int) = E := ⟨_, rfl⟩
  obtain ⟨F, hF⟩ : ∃ F : Int, (x.flags.toNat : Int) = F := ⟨_, rfl⟩
  have n0 := OfAt.new (E := E) (F := F) hS
  obtain ⟨⟨a0, a1, a2⟩, _⟩ := three n0.box
  have HCk := hideE (check_any x _ hfit _ n0.s)
  have HN := hideE n0
  have HD := hideE hd
  have HF := hideE hfit
  simp only [prgV] at HCk ⊢
  rw [hE, hF] at HCk ⊢
  clear hS hd hfit n0
  obtain ⟨l, hL⟩ : ∃ l, x.segs = l := ⟨_, rfl⟩
  have HL := hideE hL
  rw [hL] at HCk HN HD HF a2 ⊢
  clear hL
  go_enter Try.func12, Try.ntmps12
  go_wp2_with fail
  refine HCk.out.mono ?_
  rintro e w1 ⟨rfl, hb1⟩
  have n1 := HN.out.below hb1
  clear HCk HN hb1 a0 a1 a2
  obtain ⟨⟨a0, a1, a2⟩, _⟩ := three n1.box
  by_cases h0 : chk l = 0
  · obtain ⟨hl16, hmay, _⟩ := chk_zero h0
    have HTx := hideE (textOf_any _ l hl16 hmay w1 n1.s)
    have HC := hideE (show chk x.segs = 0 by rw [HL.out]; exact h0)
    rw [h0]
    have HM := hideE hmay
    have HN := hideE n1
    clear h0 hmay n1
    go_wp2_with fail
    refine HTx.out.mono ?_
    rintro e w2 ⟨rfl, hb2⟩
    have n2 := HN.out.below hb2
    clear HTx HN hb2 a0 a1 a2
    cases hT : isText l with
    | false =>
      have e0 := of_70 HC.out (by rw [HL.out]; exact hT)
      have HE0 := hideE e0
      have HE1 := hideE (of_not (x := x) (by rw [e0]; decide))
      have hrs := n2.res
      have HN := hideE n2
      clear e0 n2 hT
      go_wp2_with (first
        | (refine wpList_store_row rfl 29 _ _ rfl (w.heap.size + 1) _ rfl rfl _ Z4 hrs (by kernel_rfl) rfl (by kernel_rfl) ?_))
      exact bodyPost_ret (results_row_tmpE (p := 2) (u := 3) (by kernel_rfl) _ _ (w.heap.size + 1) _ _ _ _ rfl (setRow_heap _ _ _ _ _ _ hrs) Try.underlying29 rfl (by kernel_rfl)) rfl ⟨.slice none 0 0, by rw [HE0.out, HE1.out]; rfl, by rw [HE1.out]; exact World.ownsRow_nil _ _ _ _, below_setRowE HN.out.low (by omega) _⟩
    | true =>
      obtain ⟨y, hy⟩ := text_yes hT
      have hlt : txt l < l.length := (List.getElem?_eq_some_iff.1 hy.get).1
      have hpos : 0 < l.length := by omega
      have hym := HM.out y (List.mem_of_getElem? hy.get)
      have hdy := HD.out y (List.mem_of_getElem? hy.get)
      have hlen := hy.len
      have hok : Img.ok ⟨y.addr, x.entry, words y.data, txt l⟩ := by
        refine ⟨hy.al, ?_, ?_, words_lt _⟩
        · have := hym.2.2.2.2.2; have := hy.size
          show y.addr.toNat + 4 * (words y.data).length ≤ _
          rw [words_len]; omega
        · show (words y.data).length ≤ _
          rw [words_len]; omega
      have hin0 := entry_at y x.entry (txt l) hlen
      have htn : txN l = (txt l : Int) := by unfold txN; rw [if_pos hT]
      rw [htn]
      have HT := hideE (show isText x.segs = true by rw [HL.out]; exact hT)
      have HG := hideE (show x.segs[txt x.segs]? = some y by rw [HL.out]; exact hy.get)
      have HY := hideE hy.get
      have HK := hideE (show txt x.segs = txt l by rw [HL.out])
      obtain ⟨gb, o, rfl⟩ := sls_some n2.s hpos
      generalize txt l = K at *
      have hK0 : (0 : Int) ≤ (K : Int) := by omega
      have hK1 : (K : Int) < (l.length : Int) := by omega
      clear hT hy hym htn HM HD HF
      go_wp2_with fail
      obtain ⟨wz, hwz⟩ : ∃ wz, wz = w2 := ⟨_, rfl⟩
      subst hwz
      have hz := n2
      clear n2
      refine wp_region_noPanic ?_
      refine wp_region_held_drew (S := OfAt w E F (.slice (some ⟨gb, o, none⟩) l.length c) l) (by kernel_rfl) hz.drew (fun h0 => ?_)
      refine wpAnyH_takeAt (i := 0) (v := ?_) rfl (by kernel_rfl) (by kernel_rfl) (by kernel_rfl) (fun _ _ _ h => h) (Or.inl ⟨by rfl, ?_⟩) h0 ?_
      rotate_left 1
      · intro w' hS; have y2 := (three hS.box).1.2.2; have y0 := (three hS.box).1.1; obtain ⟨z0, z1, z2, z3⟩ := SlS.at (slsCells hS.s hpos).1 _ _ HY.out; clear hS
        go_simp <;> with_reducible rfl
      try simp only [Act.put, List.setIfInBounds_toArray, List.set_cons_zero, List.set_cons_succ]
      refine wpAnyH_takeAt (i := 1) (v := ?_) rfl (by kernel_rfl) (by kernel_rfl) (by kernel_rfl) (fun _ _ _ h => h) (Or.inl ⟨by rfl, ?_⟩) h0 ?_
      rotate_left 1
      · intro w' hS; have y2 := (three hS.box).1.2.2; have y0 := (three hS.box).1.1; obtain ⟨z0, z1, z2, z3⟩ := SlS.at (slsCells hS.s hpos).1 _ _ HY.out; clear hS
        go_simp <;> with_reducible rfl
      try simp only [Act.put, List.setIfInBounds_toArray, List.set_cons_zero, List.set_cons_succ]
      refine wpAnyH_takeAt (i := 2) (v := ?_) rfl (by kernel_rfl) (by kernel_rfl) (by kernel_rfl) (fun _ _ _ h => h) (Or.inl ⟨by rfl, ?_⟩) h0 ?_
      rotate_left 1
      · intro w' hS; have y2 := (three hS.box).1.2.2; have y0 := (three hS.box).1.1; obtain ⟨z0, z1, z2, z3⟩ := SlS.at (slsCells hS.s hpos).1 _ _ HY.out; clear hS
        go_simp <;> with_reducible rfl
      try simp only [Act.put, List.setIfInBounds_toArray, List.set_cons_zero, List.set_cons_succ]
      refine wpAnyH_takeAt (i := 3) (v := ?_) rfl (by kernel_rfl) (by kernel_rfl) (by kernel_rfl) (fun _ _ _ h => h) (Or.inl ⟨by rfl, ?_⟩) h0 ?_
      rotate_left 1
      · intro w' hS; have y2 := (three hS.box).1.2.2; have y0 := (three hS.box).1.1; obtain ⟨z0, z1, z2, z3⟩ := SlS.at (slsCells hS.s hpos).1 _ _ HY.out; clear hS
        go_simp <;> with_reducible rfl
      try simp only [Act.put, List.setIfInBounds_toArray, List.set_cons_zero, List.set_cons_succ]
      refine wpAnyH_takeAt (i := 4) (v := ?_) rfl (by kernel_rfl) (by kernel_rfl) (by kernel_rfl) (fun _ _ _ h => h) (Or.inl ⟨by rfl, ?_⟩) h0 ?_
      rotate_left 1
      · intro w' hS; have y2 := (three hS.box).1.2.2; have y0 := (three hS.box).1.1; obtain ⟨z0, z1, z2, z3⟩ := SlS.at (slsCells hS.s hpos).1 _ _ HY.out; clear hS
        go_simp <;> with_reducible rfl
      try simp only [Act.put, List.setIfInBounds_toArray, List.set_cons_zero, List.set_cons_succ]
      refine wpAnyH_takeAt (i := 5) (v := ?_) rfl (by kernel_rfl) (by kernel_rfl) (by kernel_rfl) (fun _ _ _ h => h) (Or.inl ⟨by rfl, ?_⟩) h0 ?_
      rotate_left 1
      · intro w' hS; have y2 := (three hS.box).1.2.2; have y0 := (three hS.box).1.1; obtain ⟨z0, z1, z2, z3⟩ := SlS.at (slsCells hS.s hpos).1 _ _ HY.out; clear hS
        go_simp <;> with_reducible rfl
      try simp only [Act.put, List.setIfInBounds_toArray, List.set_cons_zero, List.set_cons_succ]
      refine wpAnyH_takeAt (i := 6) (v := ?_) rfl (by kernel_rfl) (by kernel_rfl) (by kernel_rfl) (fun _ _ _ h => h) (Or.inl ⟨by rfl, ?_⟩) h0 ?_
      rotate_left 1
      · intro w' hS; have y2 := (three hS.box).1.2.2; have y0 := (three hS.box).1.1; obtain ⟨z0, z1, z2, z3⟩ := SlS.at (slsCells hS.s hpos).1 _ _ HY.out; clear hS
        go_simp <;> with_reducible rfl
      try simp only [Act.put, List.setIfInBounds_toArray, List.set_cons_zero, List.set_cons_succ]
      refine wpAnyH_takeAt (i := 7) (v := ?_) rfl (by kernel_rfl) (by kernel_rfl) (by kernel_rfl) (fun _ _ _ h => h) (Or.inl ⟨by rfl, ?_⟩) h0 ?_
      rotate_left 1
      · intro w' hS; have y2 := (three hS.box).1.2.2; have y0 := (three hS.box).1.1; obtain ⟨z0, z1, z2, z3⟩ := SlS.at (slsCells hS.s hpos).1 _ _ HY.out; clear hS
        go_simp <;> with_reducible rfl
      try simp only [Act.put, List.setIfInBounds_toArray, List.set_cons_zero, List.set_cons_succ]
      refine wpAnyH_takeAt (i := 8) (v := ?_) rfl (by kernel_rfl) (by kernel_rfl) (by kernel_rfl) (fun _ _ _ h => h) (Or.inl ⟨by rfl, ?_⟩) h0 ?_
      rotate_left 1
      · intro w' hS; have y2 := (three hS.box).1.2.2; have y0 := (three hS.box).1.1; obtain ⟨z0, z1, z2, z3⟩ := SlS.at (slsCells hS.s hpos).1 _ _ HY.out; clear hS
        go_simp <;> with_reducible rfl
      try simp only [Act.put, List.setIfInBounds_toArray, List.set_cons_zero, List.set_cons_succ]
      refine wpAnyH_takeAt (i := 9) (v := ?_) rfl (by kernel_rfl) (by kernel_rfl) (by kernel_rfl) (fun _ _ _ h => h) (Or.inl ⟨by rfl, ?_⟩) h0 ?_
      rotate_left 1
      · intro w' hS; have y2 := (three hS.box).1.2.2; have y0 := (three hS.box).1.1; obtain ⟨z0, z1, z2, z3⟩ := SlS.at (slsCells hS.s hpos).1 _ _ HY.out; clear hS
        go_simp <;> with_reducible rfl
      try simp only [Act.put, List.setIfInBounds_toArray, List.set_cons_zero, List.set_cons_succ]
      refine wpAnyH_takeAt (i := 10) (v := ?_) rfl (by kernel_rfl) (by kernel_rfl) (by kernel_rfl) (fun _ _ _ h => h) (Or.inl ⟨by rfl, ?_⟩) h0 ?_
      rotate_left 1
      · intro w' hS; have y2 := (three hS.box).1.2.2; have y0 := (three hS.box).1.1; obtain ⟨z0, z1, z2, z3⟩ := SlS.at (slsCells hS.s hpos).1 _ _ HY.out; clear hS
        go_simp <;> with_reducible rfl
      try simp only [Act.put, List.setIfInBounds_toArray, List.set_cons_zero, List.set_cons_succ]
      refine wpAnyH_takeAt (i := 11) (v := ?_) rfl (by kernel_rfl) (by kernel_rfl) (by kernel_rfl) (fun _ _ _ h => h) (Or.inl ⟨by rfl, ?_⟩) h0 ?_
      rotate_left 1
      · intro w' hS; have y2 := (three hS.box).1.2.2; have y0 := (three hS.box).1.1; obtain ⟨z0, z1, z2, z3⟩ := SlS.at (slsCells hS.s hpos).1 _ _ HY.out; clear hS
        go_simp <;> with_reducible rfl
      try simp only [Act.put, List.setIfInBounds_toArray, List.set_cons_zero, List.set_cons_succ]
      refine wpAnyH_takeAt (i := 12) (v := ?_) rfl (by kernel_rfl) (by kernel_rfl) (by kernel_rfl) (fun _ _ _ h => h) (Or.inl ⟨by rfl, ?_⟩) h0 ?_
      rotate_left 1
      · intro w' hS; have y2 := (three hS.box).1.2.2; have y0 := (three hS.box).1.1; obtain ⟨z0, z1, z2, z3⟩ := SlS.at (slsCells hS.s hpos).1 _ _ HY.out; clear hS
        go_simp <;> with_reducible rfl
      try simp only [Act.put, List.setIfInBounds_toArray, List.set_cons_zero, List.set_cons_succ]
      refine wpAnyH_takeAt (i := 13) (v := ?_) rfl (by kernel_rfl) (by kernel_rfl) (by kernel_rfl) (fun _ _ _ h => h) (Or.inl ⟨by rfl, ?_⟩) h0 ?_
      rotate_left 1
      · intro w' hS; have y2 := (three hS.box).1.2.2; have y0 := (three hS.box).1.1; obtain ⟨z0, z1, z2, z3⟩ := SlS.at (slsCells hS.s hpos).1 _ _ HY.out; clear hS
        go_simp <;> with_reducible rfl
      try simp only [Act.put, List.setIfInBounds_toArray, List.set_cons_zero, List.set_cons_succ]
      refine wpAnyH_takeAt (i := 15) (v := ?_) rfl (by kernel_rfl) (by kernel_rfl) (by kernel_rfl) (fun _ _ _ h => h) (Or.inl ⟨by rfl, ?_⟩) h0 ?_
      rotate_left 1
      · intro w' hS; have y2 := (three hS.box).1.2.2; have y0 := (three hS.box).1.1; obtain ⟨z0, z1, z2, z3⟩ := SlS.at (slsCells hS.s hpos).1 _ _ HY.out; clear hS
        go_simp <;> with_reducible rfl
      try simp only [Act.put, List.setIfInBounds_toArray, List.set_cons_zero, List.set_cons_succ]
      refine wpAnyH_ready (rs := [14, 17]) (by kernel_rfl) (by simp) (AllReadyH.cons (at_drop rfl) (fun K' hK => ?_) (allReady_at rfl (fun K' hK => ?_)))
      · go_simp
        refine (listed_any y.data hlen hdy _).mono ?_
        rintro e w1 ⟨u, rfl, hown, hb1⟩
        obtain ⟨p', c', rfl⟩ := own_slice' hown
        dsimp only
        have h1 : OfAt w E F (.slice (some ⟨gb, o, none⟩) l.length c) l w1 := h0.below hb1
        refine hK.out _ _ h1 (fun _ => ?_)
        clear hK K'
        try simp only [Act.put, List.setIfInBounds_toArray, List.set_cons_zero, List.set_cons_succ]
        refine wpAnyH_takeAt (i := 16) (v := ?_) rfl (by kernel_rfl) (by kernel_rfl) (by kernel_rfl) (fun _ _ _ h => h) (Or.inl ⟨by rfl, ?_⟩) h1 ?_
        rotate_left 1
        · intro w' hS; clear hS
          go_simp <;> with_reducible rfl
        try simp only [Act.put, List.setIfInBounds_toArray, List.set_cons_zero, List.set_cons_succ]
        refine wpAnyH_ready (rs := [17]) (by kernel_rfl) (by simp) (allReady_at rfl (fun K' hK => ?_))
        go_simp
        have h2 : OfAt w E F (.slice (some ⟨gb, o, none⟩) l.length c) l _ := h1.below ((Below.refl _ _).alloc (Nat.le_refl _) (.cells Z4 29))
        refine hK.out _ _ h2 (fun _ => ?_)
        clear hK K'
        try simp only [Act.put, List.setIfInBounds_toArray, List.set_cons_zero, List.set_cons_succ]
        refine wpAnyH_ready (rs := [18]) (by kernel_rfl) (by simp) (allReady_at rfl (fun K' hK => ?_))
        rw [if_pos (by rfl)]
        refine wp_store_row 29 _ _ rfl (w1.heap.size) #[.int .u32 (y.addr.toNat : Int), .int .u32 E, .slice p' (words y.data).length c', .int .i64 (K : Int)] rfl rfl _ Z4 (heap_alloc_new w1 _) (by kernel_rfl) rfl (by kernel_rfl) ?_
        have h3 : OfAt w E F (.slice (some ⟨gb, o, none⟩) l.length c) l ((w1.alloc (.cells Z4 29)).setRow (w1.heap.size) #[.int .u32 (y.addr.toNat : Int), .int .u32 E, .slice p' (words y.data).length c', .int .i64 (K : Int)]) := h1.below (below_setRowE ((Below.refl _ w1).alloc (Nat.le_refl _) _) (Nat.le_refl _) _)
        refine hK.out _ _ h3 (fun _ => ?_)
        clear hK K'
        try simp only [Act.put, List.setIfInBounds_toArray, List.set_cons_zero, List.set_cons_succ]
        refine wpAnyH_done (by kernel_rfl) ?_ _
        refine NoPanic.normal ?_
        refine gen_world (OfI w E F (.slice (some ⟨gb, o, none⟩) l.length c) l (w1.heap.size) #[.int .u32 (y.addr.toNat : Int), .int .u32 E, .slice p' (words y.data).length c', .int .i64 (K : Int)] (.slice p' (words y.data).length c') (words y.data)) ⟨h3, setRow_heap _ _ _ _ _ _ (heap_alloc_new w1 _), own_row (own_base (hown.alloc _) (by have := h0.low.size; omega)) (heap_alloc_new w1 _) (by decide) _⟩ ?_
        intro wq hI
        have HA := hideE (at_any ⟨y.addr, x.entry, words y.data, K⟩ (.slice p' (words y.data).length c') x.entry hok wq (slw_of_owns hI.own))
        simp only [imgV] at HA
        rw [hE] at HA
        have hib := hI.ib
        have hrs := hI.at'.res
        obtain ⟨⟨i0, i1, i2, i3⟩, _⟩ := four hI.ib
        have HI := hideE hI
        clear hI h0 h1 h2 h3
        go_wp2_with (first
          | (refine wpList_load_row rfl 29 _ rfl (w1.heap.size) rfl _ _ _ _ hib Try.underlying29 rfl (by kernel_rfl) ?_))
        refine HA.out.mono ?_
        rintro e w5 ⟨rfl, hb5⟩
        have hib5 := keptN hb5 HI.out.ib
        have hrs5 := keptN hb5 HI.out.at'.res
        have hin := hin0
        clear HA hib hrs i0 i1 i2 i3
        cases hB : entryIn y x.entry with
        | true =>
          rw [hB] at hin
          rw [hin]
          obtain ⟨e0, e1⟩ := of_0 HC.out HT.out HG.out hB
          have HE0 := hideE e0
          have HE1 := hideE e1
          clear e0 e1
          go_wp2_with (first
            | (refine wpList_load_row rfl 29 _ rfl (w1.heap.size) rfl _ _ _ _ hib5 Try.underlying29 rfl (by kernel_rfl) ?_)
            | (refine wpList_store_row rfl 29 _ _ rfl (w.heap.size + 1) _ rfl rfl _ Z4 hrs5 (by kernel_rfl) rfl (by kernel_rfl) ?_))
          exact bodyPost_ret (results_row_tmpE (p := 2) (u := 3) (by kernel_rfl) _ _ (w.heap.size + 1) _ _ _ _ rfl (setRow_heap _ _ _ _ _ _ hrs5) Try.underlying29 rfl (by kernel_rfl)) rfl ⟨.slice p' (words y.data).length c', by rw [HE0.out, HE1.out, ← hE, HK.out]; rfl, by rw [HE1.out]; exact own_row (ownE_below HI.out.own hb5) hrs5 (by decide) _, below_setRowE (HI.out.at'.below hb5).low (by omega) _⟩
        | false =>
          rw [hB] at hin
          rw [hin]
          have e0 := of_71 HC.out HT.out HG.out hB
          have HE0 := hideE e0
          have HE1 := hideE (of_not (x := x) (by rw [e0]; decide))
          clear e0
          go_wp2_with (first
            | (refine wpList_store_row rfl 29 _ _ rfl (w.heap.size + 1) _ rfl rfl _ Z4 hrs5 (by kernel_rfl) rfl (by kernel_rfl) ?_))
          exact bodyPost_ret (results_row_tmpE (p := 2) (u := 3) (by kernel_rfl) _ _ (w.heap.size + 1) _ _ _ _ rfl (setRow_heap _ _ _ _ _ _ hrs5) Try.underlying29 rfl (by kernel_rfl)) rfl ⟨.slice none 0 0, by rw [HE0.out, HE1.out]; rfl, by rw [HE1.out]; exact World.ownsRow_nil _ _ _ _, below_setRowE (HI.out.at'.below hb5).low (by omega) _⟩
      · go_simp
        have h1 : OfAt w E F (.slice (some ⟨gb, o, none⟩) l.length c) l _ := h0.below ((Below.refl _ _).alloc (Nat.le_refl _) (.cells Z4 29))
        refine hK.out _ _ h1 (fun _ => ?_)
        clear hK K'
        try simp only [Act.put, List.setIfInBounds_toArray, List.set_cons_zero, List.set_cons_succ]
        refine wpAnyH_ready (rs := [14]) (by kernel_rfl) (by simp) (allReady_at rfl (fun K' hK => ?_))
        go_simp
        refine (listed_any y.data hlen hdy _).mono ?_
        rintro e w1 ⟨u, rfl, hown, hb1⟩
        obtain ⟨p', c', rfl⟩ := own_slice' hown
        dsimp only
        have h2 : OfAt w E F (.slice (some ⟨gb, o, none⟩) l.length c) l w1 := h1.below hb1
        refine hK.out _ _ h2 (fun _ => ?_)
        clear hK K'
        try simp only [Act.put, List.setIfInBounds_toArray, List.set_cons_zero, List.set_cons_succ]
        refine wpAnyH_takeAt (i := 16) (v := ?_) rfl (by kernel_rfl) (by kernel_rfl) (by kernel_rfl) (fun _ _ _ h => h) (Or.inl ⟨by rfl, ?_⟩) h2 ?_
        rotate_left 1
        · intro w' hS; clear hS
          go_simp <;> with_reducible rfl
        try simp only [Act.put, List.setIfInBounds_toArray, List.set_cons_zero, List.set_cons_succ]
        refine wpAnyH_ready (rs := [18]) (by kernel_rfl) (by simp) (allReady_at rfl (fun K' hK => ?_))
        rw [if_pos (by rfl)]
        refine wp_store_row 29 _ _ rfl (wz.heap.size) #[.int .u32 (y.addr.toNat : Int), .int .u32 E, .slice p' (words y.data).length c', .int .i64 (K : Int)] rfl rfl _ Z4 (keptN hb1 (heap_alloc_new wz.drew _)) (by kernel_rfl) rfl (by kernel_rfl) ?_
        have h3 : OfAt w E F (.slice (some ⟨gb, o, none⟩) l.length c) l ((w1).setRow (wz.heap.size) #[.int .u32 (y.addr.toNat : Int), .int .u32 E, .slice p' (words y.data).length c', .int .i64 (K : Int)]) := h0.below (below_setRowE (((Below.refl _ wz.drew).alloc (Nat.le_refl _) _).trans (hb1.mono (by simp))) (Nat.le_refl _) _)
        refine hK.out _ _ h3 (fun _ => ?_)
        clear hK K'
        try simp only [Act.put, List.setIfInBounds_toArray, List.set_cons_zero, List.set_cons_succ]
        refine wpAnyH_done (by kernel_rfl) ?_ _
        refine NoPanic.normal ?_
        refine gen_world (OfI w E F (.slice (some ⟨gb, o, none⟩) l.length c) l (wz.heap.size) #[.int .u32 (y.addr.toNat : Int), .int .u32 E, .slice p' (words y.data).length c', .int .i64 (K : Int)] (.slice p' (words y.data).length c') (words y.data)) ⟨h3, setRow_heap _ _ _ _ _ _ (keptN hb1 (heap_alloc_new wz.drew _)), own_row (own_base hown (by have := h0.low.size; simp at this ⊢; omega)) (keptN hb1 (heap_alloc_new wz.drew _)) (by decide) _⟩ ?_
        intro wq hI
        have HA := hideE (at_any ⟨y.addr, x.entry, words y.data, K⟩ (.slice p' (words y.data).length c') x.entry hok wq (slw_of_owns hI.own))
        simp only [imgV] at HA
        rw [hE] at HA
        have hib := hI.ib
        have hrs := hI.at'.res
        obtain ⟨⟨i0, i1, i2, i3⟩, _⟩ := four hI.ib
        have HI := hideE hI
        clear hI h0 h1 h2 h3
        go_wp2_with (first
          | (refine wpList_load_row rfl 29 _ rfl (wz.heap.size) rfl _ _ _ _ hib Try.underlying29 rfl (by kernel_rfl) ?_))
        refine HA.out.mono ?_
        rintro e w5 ⟨rfl, hb5⟩
        have hib5 := keptN hb5 HI.out.ib
        have hrs5 := keptN hb5 HI.out.at'.res
        have hin := hin0
        clear HA hib hrs i0 i1 i2 i3
        cases hB : entryIn y x.entry with
        | true =>
          rw [hB] at hin
          rw [hin]
          obtain ⟨e0, e1⟩ := of_0 HC.out HT.out HG.out hB
          have HE0 := hideE e0
          have HE1 := hideE e1
          clear e0 e1
          go_wp2_with (first
            | (refine wpList_load_row rfl 29 _ rfl (wz.heap.size) rfl _ _ _ _ hib5 Try.underlying29 rfl (by kernel_rfl) ?_)
            | (refine wpList_store_row rfl 29 _ _ rfl (w.heap.size + 1) _ rfl rfl _ Z4 hrs5 (by kernel_rfl) rfl (by kernel_rfl) ?_))
          exact bodyPost_ret (results_row_tmpE (p := 2) (u := 3) (by kernel_rfl) _ _ (w.heap.size + 1) _ _ _ _ rfl (setRow_heap _ _ _ _ _ _ hrs5) Try.underlying29 rfl (by kernel_rfl)) rfl ⟨.slice p' (words y.data).length c', by rw [HE0.out, HE1.out, ← hE, HK.out]; rfl, by rw [HE1.out]; exact own_row (ownE_below HI.out.own hb5) hrs5 (by decide) _, below_setRowE (HI.out.at'.below hb5).low (by omega) _⟩
        | false =>
          rw [hB] at hin
          rw [hin]
          have e0 := of_71 HC.out HT.out HG.out hB
          have HE0 := hideE e0
          have HE1 := hideE (of_not (x := x) (by rw [e0]; decide))
          clear e0
          go_wp2_with (first
            | (refine wpList_store_row rfl 29 _ _ rfl (w.heap.size + 1) _ rfl rfl _ Z4 hrs5 (by kernel_rfl) rfl (by kernel_rfl) ?_))
          exact bodyPost_ret (results_row_tmpE (p := 2) (u := 3) (by kernel_rfl) _ _ (w.heap.size + 1) _ _ _ _ rfl (setRow_heap _ _ _ _ _ _ hrs5) Try.underlying29 rfl (by kernel_rfl)) rfl ⟨.slice none 0 0, by rw [HE0.out, HE1.out]; rfl, by rw [HE1.out]; exact World.ownsRow_nil _ _ _ _, below_setRowE (HI.out.at'.below hb5).low (by omega) _⟩
  · have HE0 := hideE (of_chk (x := x) (by rw [HL.out]; exact h0))
    have HE1 := hideE (of_not (x := x) (by rw [HE0.out, HL.out]; exact h0))
    have hq : (chk l != 0) = true := bne_iff_ne.2 h0
    have hrs := n1.res
    have HN := hideE n1
    clear n1 h0
    generalize hk : chk l = k at *
    have HKK := hideE hk
    clear hk
    go_wp2_with (first
      | (refine wpList_store_row rfl 29 _ _ rfl (w.heap.size + 1) _ rfl rfl _ Z4 hrs (by kernel_rfl) rfl (by kernel_rfl) ?_))
    exact bodyPost_ret (results_row_tmpE (p := 2) (u := 3) (by kernel_rfl) _ _ (w.heap.size + 1) _ _ _ _ rfl (setRow_heap _ _ _ _ _ _ hrs) Try.underlying29 rfl (by kernel_rfl)) rfl ⟨.slice none 0 0, by rw [HE0.out, HE1.out, HL.out, HKK.out]; rfl, by rw [HE1.out]; exact World.ownsRow_nil _ _ _ _, below_setRowE HN.out.low (by omega) _⟩
end Go.Proofs.Ytkfomhllaogplaa
