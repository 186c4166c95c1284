/-
  Contracts: the library's slices.Clone at segments; package image's copied: a program in memory of its own.
-/
import Derived.Test.YtkfomhllaogplaaEK
import Derived.Test.YtkfomhllaogplaaGB
namespace Go.Proofs.Ytkfomhllaogplaa
open Go.RowKit El Go.Lib
open Classical
set_option linter.unusedSimpArgs false
set_option linter.unusedVariables false

theorem one_cells (l : List Seg) : ∀ u ∈ csS l, u.oneCell' = true := fun u hu => by
  obtain ⟨g, _, hg⟩ := List.mem_flatMap.1 hu
  simp only [List.mem_cons, List.not_mem_nil, or_false] at hg
  rcases hg with rfl | rfl | rfl | rfl <;> rfl
set_option maxHeartbeats 1000000 in
theorem clone_segs0 (n c : Nat) (w : World) :
    Calls Try.prog 48 #[.slice none n c] w fun e w' => e = .returned (.slice none 0 0) ∧ w' = w := by
  have q22 : ∀ (w : World) (a : Option Addr) (n c n' c' : Nat), (binOp .eql 23 (.slice a n c) (.slice none n' c')).run Try.prog w = .ok (.bool a.isNone) w := fun w a n c n' c' => Lib.run_eql_slice_nil w _ _ a n c n' c' Try.underlying23
  go_enter Try.func48, Try.ntmps48
  go_wp2
  go_ret
  exact ⟨rfl, rfl⟩
set_option maxHeartbeats 2000000 in
set_option maxRecDepth 100000 in
theorem clone_segs1 (a : Addr) (n c : Nat) (news : List Value) (w : World) (hl : news.length = n * 4) (hn : n ≤ 1000000)
    (hc : ∀ j u, news[j]? = some u → w.cell? (a.add j) = some u) (h1 : ∀ u ∈ news, u.oneCell' = true) :
    Calls Try.prog 48 #[.slice (some a) n c] w fun e w' => ∃ v', e = .returned v' ∧ w'.ownsRow w.heap.size 42 4 v' n news ∧ Below w.heap.size w w' := by
  obtain ⟨i0, hi, hz0, hz1, hz2⟩ := info_partsE infoS
  have q22 : ∀ (w : World) (a : Option Addr) (n c n' c' : Nat), (binOp .eql 23 (.slice a n c) (.slice none n' c')).run Try.prog w = .ok (.bool a.isNone) w := fun w a n c n' c' => Lib.run_eql_slice_nil w _ _ a n c n' c' Try.underlying23
  have HC := hideE hc
  clear hc
  go_enter Try.func48, Try.ntmps48
  go_wp2_with (at_builtin; refine wpList_append_own _ rfl _ _ 23 rfl w.heap.size 42 i0 (.agg #[.int .u32 0, .string ⟨#[]⟩, .int .i64 0, .int .i64 0]) 4 40 Try.underlying23 hi hz0 hz1 hz2 rfl (by decide) _ _ _ rfl (World.ownsRow_made w #[] 0 (Nat.le_refl _) (Nat.zero_le _) (by simp)) a n c news rfl ?qc1 ?qc2 ?qc3 ?qc4 ?qc5 ?qc6 ?_)
  case qc1 => exact hl
  case qc2 =>
    intro j u hj
    exact Lib.cell?_alloc_some _ (HC.out j u hj)
  case qc3 => exact h1
  case qc4 => rw [Nat.zero_add]; unfold maxLen; omega
  case qc5 => rw [Nat.zero_add]; omega
  case qc6 => simp
  intro v' w1 hown hgrow hnil
  go_wp2
  go_ret
  refine ⟨v', rfl, by simpa using hown, ?_⟩
  exact ((Below.refl _ w).alloc (Nat.le_refl _) _).grown hgrow (by simp) (by intro k hk; simp [Value.ownBlock] at hk; omega)
theorem clone_segs (v : Value) (l : List Seg) (hl : l.length ≤ 1000000) (w : World) (hS : SlS w v l) :
    Calls Try.prog 48 #[v] w fun e w' => ∃ v', e = .returned v' ∧ w'.ownsRow w.heap.size 42 4 v' l.length (csS l) ∧ Below w.heap.size w w' := by
  rcases hS with ⟨p, c, rfl, rfl⟩ | ⟨g, o, c, rfl, hlc, hg, hc⟩
  · cases p with
    | none =>
      refine (clone_segs0 0 c w).mono ?_
      rintro e w' ⟨rfl, rfl⟩
      exact ⟨_, rfl, World.ownsRow_nil _ _ _ _, Below.refl _ _⟩
    | some a => exact clone_segs1 a 0 c [] w rfl (by omega) (fun j u h => by simp at h) (fun u h => by simp at h)
  · refine clone_segs1 ⟨g, o, none⟩ l.length c (csS l) w (csS_len l) hl (fun j u hj => ?_) (one_cells l)
    rw [Addr.add_lit, hc j (by rw [← csS_len]; exact (List.getElem?_eq_some_iff.1 hj).1)]; exact hj

/-- While copied is at work: its two boxes, and the row. -/
structure CpAt (w : World) (E F : Int) (v : Value) (l : List Seg) (W : World) : Prop where
  box : W.heap[w.heap.size]? = some (.cells #[.int .u32 E, .int .u32 F, v] 25 (0, 0))
  res : W.heap[w.heap.size + 1]? = some (.cells Z3 25 (0, 0))
  low : Below w.heap.size w W
  own : W.ownsRow (w.heap.size + 2) 42 4 v l.length (csS l)
theorem CpAt.below {w W W' : World} {E F : Int} {v : Value} {l : List Seg} (h : CpAt w E F v l W) (hb : Below W.heap.size W W') : CpAt w E F v l W' :=
  ⟨keptN hb h.box, keptN hb h.res, h.low.trans (hb.mono h.low.size), ownE_below h.own hb⟩
theorem CpAt.drew {w W : World} {E F : Int} {v : Value} {l : List Seg} (h : CpAt w E F v l W) : CpAt w E F v l W.drew := h.below (Below.refl _ W).drew
theorem CpAt.str {w W : World} {E F : Int} {v : Value} {l : List Seg} {g c k : Nat} {x : Seg} (h : CpAt w E F v l W) (hv : v = .slice (some ⟨g, 0, none⟩) l.length c) (hx : l[k]? = some x) : W.cell? ⟨g, k * 4 + 1, none⟩ = some (.string ⟨x.data.toArray⟩) := by
  have hk := (List.getElem?_eq_some_iff.1 hx).1
  have hS := sls_of_owns h.own
  rw [hv] at hS
  have := (SlS.at (slsCells hS (by omega)).1 k x hx).2.1
  rwa [Nat.zero_add] at this
theorem CpAt.thaw {w W : World} {E F : Int} {v : Value} {l : List Seg} {g c k : Nat} (h : CpAt w E F v l W) (hv : v = .slice (some ⟨g, 0, none⟩) l.length c) : W.frozen? ⟨g, k * 4 + 1, none⟩ = false := by
  rcases h.own.2 with ⟨e, _⟩ | ⟨g', cap, cur, e, _, hc, _⟩
  · rw [hv] at e; cases e
  · rw [hv] at e
    injection e with e1
    injection e1 with e1
    injection e1 with e1
    subst e1
    simp [World.frozen?, hc]
theorem CpAt.put {w W : World} {E F : Int} {v v' : Value} {l : List Seg} (b : W.heap[w.heap.size]? = some (.cells #[.int .u32 E, .int .u32 F, v] 25 (0, 0))) (r : W.heap[w.heap.size + 1]? = some (.cells Z3 25 (0, 0))) (hl : Below w.heap.size w W)
    (ho : W.ownsRow (w.heap.size + 2) 42 4 v' l.length (csS l)) : CpAt w E F v' l (W.setCell ⟨w.heap.size, 2, none⟩ v') := by
  refine ⟨?_, ?_, hl.setCell (by simp) _, ownsRow_setCell_below ho (by simp) _⟩
  · simp [World.setCell, Array.getElem?_modify, b]
  · rw [set_other _ _ _ _ (by simp)]; exact r
set_option maxRecDepth 100000 in
set_option maxHeartbeats 8000000 in
theorem copied_any (x : Prg) (v : Value) (hl : x.segs.length ≤ 1000) (hd : ∀ g ∈ x.segs, g.data.length ≤ 4000000) (w : World) (hS : SlS w v x.segs) :
    Calls Try.prog 32 #[prgV x v] w fun e w' => ∃ v', e = .returned (prgV x v') ∧ w'.ownsRow w.heap.size 42 4 v' x.segs.length (csS x.segs) ∧ Below w.heap.size w w' := by
  obtain ⟨p0, c0, rfl, _⟩ := hS.len
  have HS := hideE hS
  have HD := hideE hd
  clear hS hd
  unfold prgV
  obtain ⟨E, hE⟩ : ∃ E : Int, (x.entry.toNat : Int) = E := ⟨_, rfl⟩
  obtain ⟨F, hF⟩ : ∃ F : Int, (x.flags.toNat : Int) = F := ⟨_, rfl⟩
  obtain ⟨l, hL⟩ : ∃ l, x.segs = l := ⟨_, rfl⟩
  rw [hE, hF]
  rw [hL] at HS HD hl ⊢
  clear hE hF hL
  have b0 : ∀ o1 o2, Below w.heap.size w ((w.alloc o1).alloc o2) := fun o1 o2 => ((Below.refl _ w).alloc (Nat.le_refl _) _).alloc (by simp) _
  have hbx : ∀ o2, ((w.alloc (.cells #[.int .u32 E, .int .u32 F, .slice p0 l.length c0] 25)).alloc o2).heap[w.heap.size]? = some (.cells #[.int .u32 E, .int .u32 F, .slice p0 l.length c0] 25 (0, 0)) := fun o2 => keptN ((Below.refl _ _).alloc (Nat.le_refl _) _) (heap_alloc_new w _)
  have hrs : ((w.alloc (.cells #[.int .u32 E, .int .u32 F, .slice p0 l.length c0] 25)).alloc (.cells Z3 25)).heap[w.heap.size + 1]? = some (.cells Z3 25 (0, 0)) := by
    have := heap_alloc_new (w.alloc (.cells #[.int .u32 E, .int .u32 F, .slice p0 l.length c0] 25)) (.cells Z3 25)
    rwa [World.size_alloc] at this
  have HBX := hideE (hbx (.cells Z3 25))
  have HRS := hideE hrs
  clear hbx hrs
  go_enter Try.func32, Try.ntmps32
  go_wp2_with fail
  refine (clone_segs _ l (by omega) _ (HS.out.below (b0 _ _))).mono ?_
  rintro e w1 ⟨v1, rfl, hown1, hb1⟩
  obtain ⟨p, c, rfl⟩ := own_slice' hown1
  have p1 : CpAt w E F (.slice p l.length c) l (w1.setCell ⟨w.heap.size, 2, none⟩ (.slice p l.length c)) := CpAt.put (keptN hb1 HBX.out) (keptN hb1 HRS.out) ((b0 _ _).trans (hb1.mono (by simp; omega))) (by simpa using hown1)
  obtain ⟨⟨a0, a1, a2⟩, f0, f1, f2⟩ := three (keptN hb1 HBX.out)
  have HP := hideE p1
  clear p1 hown1
  go_wp2_with fail
  refine gen_world (CpAt w E F (.slice p l.length c) l) HP.out ?_
  intro wa p2
  clear HP a0 a1 a2 f0 f1 f2
  go_loopg [11] l.length (fun q i wr => ∃ k : Nat, k + q = l.length ∧ i = .int .i64 (k : Int) ∧ CpAt w E F (.slice p l.length c) l wr)
  case atStart => exact ⟨0, by omega, rfl, p2⟩
  case round =>
    clear p2
    obtain ⟨m, hmq, rfl, p0⟩ := hrel
    cases gk with
    | zero =>
      obtain rfl : m = l.length := by omega
      have hk : ¬ ((l.length : Int) < (l.length : Int)) := by omega
      have hbx := p0.box
      have hrs := p0.res
      have HP := hideE p0
      clear p0
      go_wp2_with (first
        | (refine wpList_load_row rfl 25 _ rfl w.heap.size rfl _ _ _ _ hbx Try.underlying25 rfl (by kernel_rfl) ?_)
        | (refine wpList_store_row rfl 25 _ _ rfl (w.heap.size + 1) _ rfl rfl _ Z3 hrs (by kernel_rfl) rfl (by kernel_rfl) ?_))
      exact bodyPost_ret (results_cell_row (p := 2) (by kernel_rfl) _ _ (w.heap.size + 1) _ _ _ _ rfl (setRow_heap _ _ _ _ _ _ hrs) Try.underlying25 rfl (by kernel_rfl)) rfl ⟨_, rfl, own_base (own_other HP.out.own (fun g hg => setRow_other _ _ _ _ (by omega))) (by omega), below_setRowE HP.out.low (by omega) _⟩
    | succ r =>
      have hm1 : ((m : Int) < (l.length : Int)) := by omega
      have hm0 : (0 : Int) ≤ (m : Int) := by omega
      have hwm : IntKind.i64.wrap ((m : Int) + 1) = (m : Int) + 1 := wrE (by omega) (by omega)
      obtain ⟨x, hx⟩ : ∃ x, l[m]? = some x := ⟨l[m]'(by omega), List.getElem?_eq_getElem (by omega)⟩
      obtain ⟨g, rfl⟩ := own_some p0.own (by omega)
      have hxl : (⟨x.data.toArray⟩ : ByteArray).size ≤ 281474976710656 := by
        have := HD.out x (List.mem_of_getElem? hx)
        show x.data.length ≤ _; omega
      have HX2 := hideE hx
      clear hx
      go_wp2_with fail
      refine wp_region_noPanic ?_
      refine wp_region_held_drew (S := CpAt w E F (.slice (some ⟨g, 0, none⟩) l.length c) l) (by kernel_rfl) p0.drew (fun h0 => ?_)
      refine wpAnyH_takeAt (i := 0) (v := ?_) rfl (by kernel_rfl) (by kernel_rfl) (by kernel_rfl) (fun _ _ _ h => h) (Or.inl ⟨by rfl, ?_⟩) h0 ?_
      rotate_left 1
      · intro w' hS; have y2 := (three hS.box).1.2.2; have y3 := hS.str rfl HX2.out; clear hS
        go_simp <;> with_reducible rfl
      try simp only [Act.put, List.setIfInBounds_toArray, List.set_cons_zero, List.set_cons_succ]
      refine wpAnyH_takeAt (i := 1) (v := ?_) rfl (by kernel_rfl) (by kernel_rfl) (by kernel_rfl) (fun _ _ _ h => h) (Or.inl ⟨by rfl, ?_⟩) h0 ?_
      rotate_left 1
      · intro w' hS; have y2 := (three hS.box).1.2.2; have y3 := hS.str rfl HX2.out; clear hS
        go_simp <;> with_reducible rfl
      try simp only [Act.put, List.setIfInBounds_toArray, List.set_cons_zero, List.set_cons_succ]
      refine wpAnyH_takeAt (i := 2) (v := ?_) rfl (by kernel_rfl) (by kernel_rfl) (by kernel_rfl) (fun _ _ _ h => h) (Or.inl ⟨by rfl, ?_⟩) h0 ?_
      rotate_left 1
      · intro w' hS; have y2 := (three hS.box).1.2.2; have y3 := hS.str rfl HX2.out; clear hS
        go_simp <;> with_reducible rfl
      try simp only [Act.put, List.setIfInBounds_toArray, List.set_cons_zero, List.set_cons_succ]
      refine wpAnyH_takeAt (i := 3) (v := ?_) rfl (by kernel_rfl) (by kernel_rfl) (by kernel_rfl) (fun _ _ _ h => h) (Or.inl ⟨by rfl, ?_⟩) h0 ?_
      rotate_left 1
      · intro w' hS; have y2 := (three hS.box).1.2.2; have y3 := hS.str rfl HX2.out; clear hS
        go_simp <;> with_reducible rfl
      try simp only [Act.put, List.setIfInBounds_toArray, List.set_cons_zero, List.set_cons_succ]
      refine wpAnyH_takeAt (i := 4) (v := ?_) rfl (by kernel_rfl) (by kernel_rfl) (by kernel_rfl) (fun _ _ _ h => h) (Or.inl ⟨by rfl, ?_⟩) h0 ?_
      rotate_left 1
      · intro w' hS; have y2 := (three hS.box).1.2.2; have y3 := hS.str rfl HX2.out; clear hS
        go_simp <;> with_reducible rfl
      try simp only [Act.put, List.setIfInBounds_toArray, List.set_cons_zero, List.set_cons_succ]
      refine wpAnyH_takeAt (i := 5) (v := ?_) rfl (by kernel_rfl) (by kernel_rfl) (by kernel_rfl) (fun _ _ _ h => h) (Or.inl ⟨by rfl, ?_⟩) h0 ?_
      rotate_left 1
      · intro w' hS; have y2 := (three hS.box).1.2.2; have y3 := hS.str rfl HX2.out; clear hS
        go_simp <;> with_reducible rfl
      try simp only [Act.put, List.setIfInBounds_toArray, List.set_cons_zero, List.set_cons_succ]
      refine wpAnyH_takeAt (i := 6) (v := ?_) rfl (by kernel_rfl) (by kernel_rfl) (by kernel_rfl) (fun _ _ _ h => h) (Or.inl ⟨by rfl, ?_⟩) h0 ?_
      rotate_left 1
      · intro w' hS; have y2 := (three hS.box).1.2.2; have y3 := hS.str rfl HX2.out; clear hS
        go_simp <;> with_reducible rfl
      try simp only [Act.put, List.setIfInBounds_toArray, List.set_cons_zero, List.set_cons_succ]
      refine wpAnyH_takeAt (i := 7) (v := ?_) rfl (by kernel_rfl) (by kernel_rfl) (by kernel_rfl) (fun _ _ _ h => h) (Or.inl ⟨by rfl, ?_⟩) h0 ?_
      rotate_left 1
      · intro w' hS; have y2 := (three hS.box).1.2.2; have y3 := hS.str rfl HX2.out; clear hS
        go_simp <;> with_reducible rfl
      try simp only [Act.put, List.setIfInBounds_toArray, List.set_cons_zero, List.set_cons_succ]
      refine wpAnyH_takeAt (i := 8) (v := ?_) rfl (by kernel_rfl) (by kernel_rfl) (by kernel_rfl) (fun _ _ _ h => h) (Or.inl ⟨by rfl, ?_⟩) h0 ?_
      rotate_left 1
      · intro w' hS; have y2 := (three hS.box).1.2.2; have y3 := hS.str rfl HX2.out; clear hS
        go_simp <;> with_reducible rfl
      try simp only [Act.put, List.setIfInBounds_toArray, List.set_cons_zero, List.set_cons_succ]
      refine wpAnyH_ready (rs := [9]) (by kernel_rfl) (by simp) (allReady_at rfl (fun K hK => ?_))
      go_simp
      refine (clone_any _ _ hxl).mono ?_
      rintro e w1 ⟨rfl, hb1⟩
      dsimp only
      have h1 : CpAt w E F (.slice (some ⟨g, 0, none⟩) l.length c) l w1 := h0.below hb1
      refine hK.out _ _ h1 (fun _ => ?_)
      clear hK K
      try simp only [Act.put, List.setIfInBounds_toArray, List.set_cons_zero, List.set_cons_succ]
      refine wpAnyH_takeAt (i := 10) (v := ?_) rfl (by kernel_rfl) (by kernel_rfl) (by kernel_rfl) (fun _ _ _ h => h) (Or.inl ⟨by rfl, ?_⟩) h1 ?_
      rotate_left 1
      · intro w' hS; clear hS
        go_simp <;> with_reducible rfl
      try simp only [Act.put, List.setIfInBounds_toArray, List.set_cons_zero, List.set_cons_succ]
      refine wpAnyH_takeAt (i := 11) (v := ?_) rfl (by kernel_rfl) (by kernel_rfl) (by kernel_rfl) (fun _ _ _ h => h) (Or.inl ⟨by rfl, ?_⟩) h1 ?_
      rotate_left 1
      · intro w' hS; clear hS
        go_simp <;> with_reducible rfl
      try simp only [Act.put, List.setIfInBounds_toArray, List.set_cons_zero, List.set_cons_succ]
      refine wpAnyH_ready (rs := [12]) (by kernel_rfl) (by simp) (allReady_at rfl (fun K hK => ?_))
      have y3 := h1.str rfl HX2.out
      have y4 := h1.thaw (k := m) rfl
      go_simp
      rw [set_same _ _ _ _ y3]
      have h2 : CpAt w E F (.slice (some ⟨g, 0, none⟩) l.length c) l _ := h1
      refine hK.out _ _ h2 (fun _ => ?_)
      clear hK K
      try simp only [Act.put, List.setIfInBounds_toArray, List.set_cons_zero, List.set_cons_succ]
      refine wpAnyH_done (by kernel_rfl) ?_ _
      refine NoPanic.normal ?_
      go_wp2_with fail
      go_roundg r
      case measure => omega
      case rel => exact ⟨m + 1, by omega, by simp, h2⟩
end Go.Proofs.Ytkfomhllaogplaa
