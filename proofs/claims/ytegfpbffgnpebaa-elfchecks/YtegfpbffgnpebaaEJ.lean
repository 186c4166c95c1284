/-
  Contract of package elf's program, where its table is all there.
-/
import Derived.Test.YtegfpbffgnpebaaEI
namespace Go.Proofs.Ytegfpbffgnpebaa
open Go.RowKit El Go.Lib
open Classical
set_option linter.unusedSimpArgs false

theorem infoS : (Try.prog.info? 36).map (fun i => (i.zero, i.size, i.bytes)) = some (some (.agg #[.int .u32 0, .string ⟨#[]⟩, .int .i64 0, .int .i64 0]), 4, 40) := by kernel_rfl
theorem info_partsE {P : Program} {t : TypeId} {z : Value} {s b : Nat} (h : (P.info? t).map (fun i => (i.zero, i.size, i.bytes)) = some (some z, s, b)) : ∃ i, P.info? t = some i ∧ i.zero = some z ∧ i.size = s ∧ i.bytes = b := by
  cases hi : P.info? t with
  | none => rw [hi] at h; cases h
  | some i => rw [hi] at h; simp at h; exact ⟨i, rfl, h.1, h.2.1, h.2.2⟩
theorem cell_four_new (w : World) (a b c d : Value) (t : TypeId) : ∀ j u, [a, b, c, d][j]? = some u → (w.alloc (.cells #[a, b, c, d] t)).cell? ((⟨w.heap.size, 0, none⟩ : Addr).add j) = some u := by
  intro j u hj
  match j, hj with
  | 0, hj => simp at hj; subst hj; simp [Addr.add]
  | 1, hj => simp at hj; subst hj; simp [Addr.add]
  | 2, hj => simp at hj; subst hj; simp [Addr.add]
  | 3, hj => simp at hj; subst hj; simp [Addr.add]
theorem PAt.put {w W : World} {E F : Int} {v v' : Value} {l : List Seg} (r : W.heap[w.heap.size]? = some (.cells Z3 25 (0, 0))) (b : W.heap[w.heap.size + 1]? = some (.cells #[.int .u32 E, .int .u32 F, v] 25 (0, 0))) (hl : Below w.heap.size w W)
    (ho : W.ownsRow (w.heap.size + 2) 36 4 v' l.length (csS l)) : PAt w E F v' l (W.setCell ⟨w.heap.size + 1, 2, none⟩ v') := by
  refine ⟨?_, ?_, hl.setCell (by simp) _, ownsRow_setCell_below ho (by simp) _⟩
  · rw [set_other _ _ _ _ (by simp)]; exact r
  · simp [World.setCell, Array.getElem?_modify, b]
theorem PAt.new1 (w : World) (E F : Int) (n m : Nat) : PAt w E F (.slice none 0 0) [] ((((w.alloc (.cells Z3 25)).drewN n).alloc (.cells #[.int .u32 E, .int .u32 F, .slice none 0 0] 25)).drewN m) := by
  have hb := (bEl w).trans (drew_low (w.alloc (.cells Z3 25)) n _)
  refine ⟨?_, ?_, (hb.alloc (by simp [World.drewN]) _).trans (drew_low _ _ _), World.ownsRow_nil _ _ _ _⟩
  · show (World.alloc _ _).heap[w.heap.size]? = _
    rw [Below.heap_alloc _ _ _ (by simp [World.drewN])]
    exact heap_alloc_new w _
  · have := heap_alloc_new ((w.alloc (.cells Z3 25)).drewN n) (.cells #[.int .u32 E, .int .u32 F, .slice none 0 0] 25)
    simpa [World.drewN] using this
theorem PAt.cells {w W : World} {E F : Int} {v : Value} {l : List Seg} {g c : Nat} (h : PAt w E F v l W) (hv : v = .slice (some ⟨g, 0, none⟩) l.length c) : ∃ cur, W.heap[g]? = some (.cells cur 36 (0, 0)) := by
  rcases h.own.2 with ⟨e, _⟩ | ⟨g', cap, cur, e, _, h3, _⟩
  · rw [hv] at e; injection e with e; cases e
  · rw [hv] at e; injection e with e1 e2 e3; injection e1 with e1; injection e1 with e4; subst e4; exact ⟨cur, h3⟩
theorem PAt.str {w W : World} {E F : Int} {v : Value} {l : List Seg} {g c k : Nat} {x : Seg} (h : PAt w E F v l W) (hv : v = .slice (some ⟨g, 0, none⟩) l.length c) (hx : l[k]? = some x) : W.cell? ⟨g, k * 4 + 1, none⟩ = some (.string ⟨x.data.toArray⟩) := by
  have hk := (List.getElem?_eq_some_iff.1 hx).1
  have hS := sls_of_owns h.own
  rw [hv] at hS
  have := (SlS.at (slsCells hS (by omega)).1 k x hx).2.1
  rwa [Nat.zero_add] at this
theorem PAt.thaw {w W : World} {E F : Int} {v : Value} {l : List Seg} {g c k : Nat} (h : PAt w E F v l W) (hv : v = .slice (some ⟨g, 0, none⟩) l.length c) : W.frozen? ⟨g, k * 4 + 1, none⟩ = false := by
  obtain ⟨cur, hc⟩ := h.cells hv
  simp [World.frozen?, hc]
theorem own_slice {W : World} {B : Nat} {t : TypeId} {k : Nat} {v : Value} {n : Nat} {xs : List Value} (h : W.ownsRow B t k v n xs) : ∃ p m c, v = .slice p m c := by
  rcases h.2 with ⟨e, _⟩ | ⟨g, cap, cur, e, _⟩ <;> exact ⟨_, _, _, e⟩
theorem own_slice' {W : World} {B : Nat} {t : TypeId} {k : Nat} {v : Value} {n : Nat} {xs : List Value} (h : W.ownsRow B t k v n xs) : ∃ p c, v = .slice p n c := by
  rcases h.2 with ⟨e, e0⟩ | ⟨g, cap, cur, e, _⟩
  · exact ⟨none, 0, by rw [e, e0]⟩
  · exact ⟨_, _, e⟩
theorem own_some {W : World} {B : Nat} {t : TypeId} {k : Nat} {p : Option Addr} {c n : Nat} {xs : List Value} (h : W.ownsRow B t k (.slice p n c) n xs) (hn : 0 < n) : ∃ g, p = some ⟨g, 0, none⟩ := by
  rcases h.2 with ⟨_, e0⟩ | ⟨g, cap, cur, e, _⟩
  · omega
  · injection e with e1; exact ⟨g, e1⟩
theorem own_low {W : World} {B b : Nat} {t : TypeId} {k : Nat} {v : Value} {n : Nat} {xs : List Value} {cs : Array Value} (h : W.ownsRow B t k v n xs) (hb : b < B) : (W.setRow b cs).ownsRow b t k v n xs := by
  refine ⟨h.1, ?_⟩
  rcases h.2 with h0 | ⟨g, cap, cur, h1, h2, h3, h4⟩
  · exact .inl h0
  · exact .inr ⟨g, cap, cur, h1, by omega, by rw [setRow_other _ _ _ _ (by omega)]; exact h3, h4⟩
theorem segs_fits (s : List UInt8) (p n : Nat) : ∀ x ∈ segs s p n, Fits x := fun x hx => by
  obtain ⟨i, hi⟩ := List.getElem?_of_mem hx
  have hl := (List.getElem?_eq_some_iff.1 hi).1
  rw [segs_len] at hl
  rw [segs_get _ _ _ _ hl] at hi
  injection hi with hi; subst hi
  have := le4_lt s (p + 32 * i + 20)
  exact ⟨by simp only [segAt]; omega, by simp only [segAt]; omega⟩
theorem segs_data (s : List UInt8) (p n : Nat) : ∀ x ∈ segs s p n, x.data.length ≤ s.length := fun x hx => by
  obtain ⟨i, hi⟩ := List.getElem?_of_mem hx
  have hl := (List.getElem?_eq_some_iff.1 hi).1
  rw [segs_len] at hl
  rw [segs_get _ _ _ _ hl] at hi
  injection hi with hi; subst hi
  simp only [segAt, List.length_take, List.length_drop]; omega

set_option maxRecDepth 100000 in
set_option maxHeartbeats 8000000 in
theorem program_rows (s : List UInt8) (A N : Nat) (E F : Nat) (hE : le4 s 24 = E) (hF : le4 s 36 = F) (hA : le4 s 28 = A) (hN : le2 s 44 = N) (h : 52 ≤ s.length) (hr : Right s) (hb : N ≤ 16) (ht : A + 32 * N ≤ s.length) (hl : s.length ≤ 281474976710656)
    (KK : Int) (hKK : KK = if rowsE s A N ≠ 0 then rowsE s A N else chk (segs s A N)) (w : World) :
    Calls Try.prog 24 #[.string ⟨s.toArray⟩] w fun e w' => ∃ v, e = ends KK (.agg #[.int .u32 (E : Int), .int .u32 (F : Int), v]) ∧ (KK = 0 → w'.ownsRow w.heap.size 36 4 v (segs s A N).length (csS (segs s A N))) ∧ Below w.heap.size w w' := by
  have HKK := hideE hKK
  have hd : decide ((52 : Int) ≤ (s.length : Int)) = true := decide_eq_true (by omega)
  obtain ⟨hm, hk, hz⟩ := hr
  have Hm := hideE hm
  have Hk := hideE hk
  have Hz := hideE hz
  clear hm hk hz
  have hlt := le2_lt s 44
  have hlt4 := le4_lt s 28
  rw [hN] at hlt
  rw [hA] at hlt4
  have hd2 : decide ((N : Int) ≤ 16) = true := decide_eq_true (by omega)
  obtain ⟨i0, hi, hz0, hz1, hz2⟩ := info_partsE infoS
  clear hKK
  go_enter Try.func24, Try.ntmps24
  go_wp2_with fail
  refine (insist_yes _ _).mono ?_
  rintro e w1 ⟨rfl, rfl⟩
  go_wp2_with fail
  refine (has_is s _ 0 El.mark true rfl (decide_eq_true Hm.out) (by show 0 + 7 ≤ s.length; omega) hl _).mono ?_
  rintro e w1 ⟨rfl, rfl⟩
  go_wp2_with fail
  refine (has_is s _ 16 El.kind true rfl (decide_eq_true Hk.out) (by show 16 + 8 ≤ s.length; omega) hl _).mono ?_
  rintro e w1 ⟨rfl, rfl⟩
  go_wp2_with fail
  refine (has_is s _ 40 El.sizes true rfl (decide_eq_true Hz.out) (by show 40 + 4 ≤ s.length; omega) hl _).mono ?_
  rintro e w1 ⟨rfl, rfl⟩
  go_wp2_with fail
  refine (insist_yes _ _).mono ?_
  rintro e w1 ⟨rfl, rfl⟩
  go_wp2_with fail
  refine (half_at s _ 44 rfl (by omega) hl _).mono ?_
  rintro e w1 ⟨rfl, n1, rfl⟩
  rw [hN]
  go_wp2_with fail
  refine (insist_yes _ _).mono ?_
  rintro e w1 ⟨rfl, rfl⟩
  go_wp2_with fail
  refine (word_at s _ 28 rfl (by omega) hl _).mono ?_
  rintro e w1 ⟨rfl, n2, rfl⟩
  rw [hA]
  go_wp2_with fail
  refine (piece_at s _ _ A (32 * N) rfl (by first | omega | (rw [wrE (by omega) (by omega)]; omega)) ht hl _).mono ?_
  rintro e w1 ⟨rfl, rfl⟩
  go_wp2_with fail
  refine (word_at s _ 24 rfl (by omega) hl _).mono ?_
  rintro e w1 ⟨rfl, n3, rfl⟩
  rw [hE]
  go_wp2_with fail
  refine (word_at s _ 36 rfl (by omega) hl _).mono ?_
  rintro e w1 ⟨rfl, n4, rfl⟩
  rw [hF]
  go_wp2_with fail
  refine gen_world (PAt w E F (.slice none 0 0) []) (by first | exact PAt.new1 w E F _ 0 | exact PAt.new1 w E F 0 _ | exact PAt.new1 w E F _ _) ?_
  intro wa hPA
  go_loopg [49] N (fun q i wr => ∃ (k : Nat) (v : Value), k + q = N ∧ i = .int .i64 (k : Int) ∧ rowsE s A k = 0 ∧ PAt w E F v (segs s A k) wr)
  case atStart => exact ⟨0, _, by omega, rfl, rfl, hPA⟩
  case round =>
    clear hPA
    obtain ⟨k, v, hkq, rfl, hR, hP⟩ := hrel
    have HR := hideE hR
    clear hR
    cases gk with
    | zero =>
      obtain rfl : k = N := by omega
      have hk : ¬ ((k : Int) < (k : Int)) := by omega
      have HK : Hid (KK = chk (segs s A k)) := by show KK = _; rw [HKK.out, HR.out]; simp
      generalize hL : segs s A k = l at *
      have hlf : ∀ x ∈ l, Fits x := hL ▸ segs_fits s A k
      have hld : ∀ x ∈ l, x.data.length ≤ s.length := hL ▸ segs_data s A k
      have hll : l.length ≤ 16 := by rw [← hL, segs_len]; exact hb
      obtain ⟨⟨a0, a1, a2⟩, _⟩ := three hP.box
      have HC := hideE (look_any E F v l hlf wr (sls_of_owns hP.own))
      have HP := hideE hP
      obtain ⟨pp, c, rfl⟩ := own_slice' hP.own
      clear hP hlf HKK HR
      by_cases hc0 : chk l = 0
      · have HC0 := hideE hc0
        clear hc0
        go_wp2_with fail
        refine HC.out.mono ?_
        rintro e w1 ⟨he, hb1⟩
        rw [HC0.out, ends_zero] at he
        subst he
        have p1 := HP.out.below hb1
        clear a0 a1 a2 HC HP
        obtain ⟨⟨a0, a1, a2⟩, _⟩ := three p1.box
        go_wp2_with fail
        clear a0 a1 a2
        go_loopg [71] l.length (fun q i wr => ∃ m : Nat, m + q = l.length ∧ i = .int .i64 (m : Int) ∧ PAt w E F (.slice pp l.length c) l wr)
        case atStart => exact ⟨0, by omega, rfl, p1⟩
        case round =>
          clear p1
          obtain ⟨m, hmq, rfl, p0⟩ := hrel
          cases gk with
          | zero =>
            obtain rfl : m = l.length := by omega
            have hk9 : ¬ ((l.length : Int) < (l.length : Int)) := by omega
            have hbx := p0.box
            have hrs := p0.res
            have HP0 := hideE p0
            clear p0
            go_wp2_with (first
              | (refine wpList_load_row rfl 25 _ rfl (w.heap.size + 1) rfl _ _ _ _ hbx Try.underlying25 rfl (by kernel_rfl) ?_)
              | (refine wpList_store_row rfl 25 _ _ rfl w.heap.size _ rfl rfl _ Z3 hrs (by kernel_rfl) rfl (by kernel_rfl) ?_))
            exact bodyPost_ret (results_cell_row (p := 2) (by kernel_rfl) _ _ w.heap.size _ _ _ _ rfl (setRow_heap _ _ _ _ _ _ hrs) Try.underlying25 rfl (by kernel_rfl)) rfl ⟨_, by rw [HK.out, HC0.out, ends_zero], fun _ => own_low HP0.out.own (by omega), below_setRowE HP0.out.low (Nat.le_refl _) _⟩
          | succ r =>
            have hm1 : ((m : Int) < (l.length : Int)) := by omega
            have hm0 : (0 : Int) ≤ (m : Int) := by omega
            have hwm : IntKind.i64.wrap ((m : Int) + 1) = (m : Int) + 1 := wrE (by omega) (by omega)
            obtain ⟨x, hx⟩ : ∃ x, l[m]? = some x := ⟨l[m]'(by omega), List.getElem?_eq_getElem (by omega)⟩
            obtain ⟨g, rfl⟩ := own_some p0.own (by omega)
            have hxl : (⟨x.data.toArray⟩ : ByteArray).size ≤ 281474976710656 := by
              have := hld x (List.mem_of_getElem? hx)
              show x.data.length ≤ _; omega
            have HX2 := hideE hx
            clear hx
            go_wp2_with fail
            refine wp_region_noPanic ?_
            refine wp_region_held_drew (S := PAt w E F (.slice (some ⟨g, 0, none⟩) l.length c) l) (by kernel_rfl) p0.drew (fun h0 => ?_)
            refine wpAnyH_takeAt (i := 0) (v := ?_) rfl (by kernel_rfl) (by kernel_rfl) (by kernel_rfl) (fun _ _ _ h => h) (Or.inl ⟨by rfl, ?_⟩) h0 ?_
            rotate_left 1
            · intro w' hS; have y2 := (three hS.box).1.2.2; have y3 := hS.str rfl HX2.out; clear hS
              go_simp <;> with_reducible rfl
            try simp only [Act.put, List.setIfInBounds_toArray, List.set_cons_zero, List.set_cons_succ]
            refine wpAnyH_takeAt (i := 1) (v := ?_) rfl (by kernel_rfl) (by kernel_rfl) (by kernel_rfl) (fun _ _ _ h => h) (Or.inl ⟨by rfl, ?_⟩) h0 ?_
            rotate_left 1
            · intro w' hS; have y2 := (three hS.box).1.2.2; have y3 := hS.str rfl HX2.out; clear hS
              go_simp <;> with_reducible rfl
            try simp only [Act.put, List.setIfInBounds_toArray, List.set_cons_zero, List.set_cons_succ]
            refine wpAnyH_takeAt (i := 2) (v := ?_) rfl (by kernel_rfl) (by kernel_rfl) (by kernel_rfl) (fun _ _ _ h => h) (Or.inl ⟨by rfl, ?_⟩) h0 ?_
            rotate_left 1
            · intro w' hS; have y2 := (three hS.box).1.2.2; have y3 := hS.str rfl HX2.out; clear hS
              go_simp <;> with_reducible rfl
            try simp only [Act.put, List.setIfInBounds_toArray, List.set_cons_zero, List.set_cons_succ]
            refine wpAnyH_takeAt (i := 3) (v := ?_) rfl (by kernel_rfl) (by kernel_rfl) (by kernel_rfl) (fun _ _ _ h => h) (Or.inl ⟨by rfl, ?_⟩) h0 ?_
            rotate_left 1
            · intro w' hS; have y2 := (three hS.box).1.2.2; have y3 := hS.str rfl HX2.out; clear hS
              go_simp <;> with_reducible rfl
            try simp only [Act.put, List.setIfInBounds_toArray, List.set_cons_zero, List.set_cons_succ]
            refine wpAnyH_takeAt (i := 4) (v := ?_) rfl (by kernel_rfl) (by kernel_rfl) (by kernel_rfl) (fun _ _ _ h => h) (Or.inl ⟨by rfl, ?_⟩) h0 ?_
            rotate_left 1
            · intro w' hS; have y2 := (three hS.box).1.2.2; have y3 := hS.str rfl HX2.out; clear hS
              go_simp <;> with_reducible rfl
            try simp only [Act.put, List.setIfInBounds_toArray, List.set_cons_zero, List.set_cons_succ]
            refine wpAnyH_takeAt (i := 5) (v := ?_) rfl (by kernel_rfl) (by kernel_rfl) (by kernel_rfl) (fun _ _ _ h => h) (Or.inl ⟨by rfl, ?_⟩) h0 ?_
            rotate_left 1
            · intro w' hS; have y2 := (three hS.box).1.2.2; have y3 := hS.str rfl HX2.out; clear hS
              go_simp <;> with_reducible rfl
            try simp only [Act.put, List.setIfInBounds_toArray, List.set_cons_zero, List.set_cons_succ]
            refine wpAnyH_takeAt (i := 6) (v := ?_) rfl (by kernel_rfl) (by kernel_rfl) (by kernel_rfl) (fun _ _ _ h => h) (Or.inl ⟨by rfl, ?_⟩) h0 ?_
            rotate_left 1
            · intro w' hS; have y2 := (three hS.box).1.2.2; have y3 := hS.str rfl HX2.out; clear hS
              go_simp <;> with_reducible rfl
            try simp only [Act.put, List.setIfInBounds_toArray, List.set_cons_zero, List.set_cons_succ]
            refine wpAnyH_takeAt (i := 7) (v := ?_) rfl (by kernel_rfl) (by kernel_rfl) (by kernel_rfl) (fun _ _ _ h => h) (Or.inl ⟨by rfl, ?_⟩) h0 ?_
            rotate_left 1
            · intro w' hS; have y2 := (three hS.box).1.2.2; have y3 := hS.str rfl HX2.out; clear hS
              go_simp <;> with_reducible rfl
            try simp only [Act.put, List.setIfInBounds_toArray, List.set_cons_zero, List.set_cons_succ]
            refine wpAnyH_takeAt (i := 8) (v := ?_) rfl (by kernel_rfl) (by kernel_rfl) (by kernel_rfl) (fun _ _ _ h => h) (Or.inl ⟨by rfl, ?_⟩) h0 ?_
            rotate_left 1
            · intro w' hS; have y2 := (three hS.box).1.2.2; have y3 := hS.str rfl HX2.out; clear hS
              go_simp <;> with_reducible rfl
            try simp only [Act.put, List.setIfInBounds_toArray, List.set_cons_zero, List.set_cons_succ]
            refine wpAnyH_ready (rs := [9]) (by kernel_rfl) (by simp) (allReady_at rfl (fun K hK => ?_))
            go_simp
            refine (clone_any _ _ hxl).mono ?_
            rintro e w1 ⟨rfl, hb1⟩
            dsimp only
            have h1 : PAt w E F (.slice (some ⟨g, 0, none⟩) l.length c) l w1 := h0.below hb1
            refine hK.out _ _ h1 (fun _ => ?_)
            clear hK K
            try simp only [Act.put, List.setIfInBounds_toArray, List.set_cons_zero, List.set_cons_succ]
            refine wpAnyH_takeAt (i := 10) (v := ?_) rfl (by kernel_rfl) (by kernel_rfl) (by kernel_rfl) (fun _ _ _ h => h) (Or.inl ⟨by rfl, ?_⟩) h1 ?_
            rotate_left 1
            · intro w' hS; clear hS
              go_simp <;> with_reducible rfl
            try simp only [Act.put, List.setIfInBounds_toArray, List.set_cons_zero, List.set_cons_succ]
            refine wpAnyH_takeAt (i := 11) (v := ?_) rfl (by kernel_rfl) (by kernel_rfl) (by kernel_rfl) (fun _ _ _ h => h) (Or.inl ⟨by rfl, ?_⟩) h1 ?_
            rotate_left 1
            · intro w' hS; clear hS
              go_simp <;> with_reducible rfl
            try simp only [Act.put, List.setIfInBounds_toArray, List.set_cons_zero, List.set_cons_succ]
            refine wpAnyH_ready (rs := [12]) (by kernel_rfl) (by simp) (allReady_at rfl (fun K hK => ?_))
            have y3 := h1.str rfl HX2.out
            have y4 := h1.thaw (k := m) rfl
            go_simp
            rw [set_same _ _ _ _ y3]
            have h2 : PAt w E F (.slice (some ⟨g, 0, none⟩) l.length c) l _ := h1
            refine hK.out _ _ h2 (fun _ => ?_)
            clear hK K
            try simp only [Act.put, List.setIfInBounds_toArray, List.set_cons_zero, List.set_cons_succ]
            refine wpAnyH_done (by kernel_rfl) ?_ _
            refine NoPanic.normal ?_
            go_wp2_with fail
            go_roundg r
            case measure => omega
            case rel => exact ⟨m + 1, by omega, by simp, h2⟩
      · have HC0 := hideE hc0
        clear hc0
        go_wp2_with fail
        refine HC.out.mono ?_
        rintro e w1 ⟨he, hb1⟩
        rw [ends_odd HC0.out] at he
        subst he
        go_wp2_with fail
        exact ⟨rfl, .nilIface, by rw [HK.out, ends_odd HC0.out], fun h => absurd (HK.out.symm.trans h) HC0.out, (HP.out.below hb1).low⟩
    | succ q =>
      have hk : ((k : Int) < (N : Int)) := by omega
      have hwk : IntKind.i64.wrap ((k : Int) + 1) = (k : Int) + 1 := wrE (by omega) (by omega)
      have hwm : IntKind.i64.wrap ((k : Int) * 32) = (k : Int) * 32 := wrE (by omega) (by omega)
      have hwa : IntKind.i64.wrap ((A : Int) + (k : Int) * 32) = (A : Int) + (k : Int) * 32 := wrE (by omega) (by omega)
      obtain ⟨x, hx⟩ : ∃ x, x = segAt s (A + 32 * k) := ⟨_, rfl⟩
      have HX := hideE hx
      clear hx
      have p0 := hP.drew
      clear hP
      by_cases h0 : rowE s (A + 32 * k) = 0
      · have H0 := hideE h0
        clear h0
        go_wp2_with fail
        refine wp_region_noPanic ?_
        refine wp_region_held_drew (S := PBox w E F) (by kernel_rfl) p0.pbox (fun h0 => ?_)
        refine wpAnyH_takeAt (i := 0) (v := ?_) rfl (by kernel_rfl) (by kernel_rfl) (by kernel_rfl) (fun _ _ _ h => h) (Or.inl ⟨by rfl, ?_⟩) h0 ?_
        rotate_left 1
        · intro w' hS; clear hS
          go_simp <;> with_reducible rfl
        try simp only [Act.put, List.setIfInBounds_toArray, List.set_cons_zero, List.set_cons_succ]
        refine wpAnyH_takeAt (i := 2) (v := ?_) rfl (by kernel_rfl) (by kernel_rfl) (by kernel_rfl) (fun _ _ _ h => h) (Or.inl ⟨by rfl, ?_⟩) h0 ?_
        rotate_left 1
        · intro w' hS; clear hS
          go_simp <;> with_reducible rfl
        try simp only [Act.put, List.setIfInBounds_toArray, List.set_cons_zero, List.set_cons_succ]
        refine wpAnyH_takeAt (i := 3) (v := ?_) rfl (by kernel_rfl) (by kernel_rfl) (by kernel_rfl) (fun _ _ _ h => h) (Or.inl ⟨by rfl, ?_⟩) h0 ?_
        rotate_left 1
        · intro w' hS; clear hS
          go_simp <;> with_reducible rfl
        try simp only [Act.put, List.setIfInBounds_toArray, List.set_cons_zero, List.set_cons_succ]
        refine wpAnyH_takeAt (i := 4) (v := ?_) rfl (by kernel_rfl) (by kernel_rfl) (by kernel_rfl) (fun _ _ _ h => h) (Or.inl ⟨by rfl, ?_⟩) h0 ?_
        rotate_left 1
        · intro w' hS; clear hS
          go_simp <;> with_reducible rfl
        try simp only [Act.put, List.setIfInBounds_toArray, List.set_cons_zero, List.set_cons_succ]
        refine wpAnyH_takeAt (i := 5) (v := ?_) rfl (by kernel_rfl) (by kernel_rfl) (by kernel_rfl) (fun _ _ _ h => h) (Or.inl ⟨by rfl, ?_⟩) h0 ?_
        rotate_left 1
        · intro w' hS; clear hS
          go_simp <;> with_reducible rfl
        try simp only [Act.put, List.setIfInBounds_toArray, List.set_cons_zero, List.set_cons_succ]
        refine wpAnyH_takeAt (i := 6) (v := .int .i64 ((k : Int) * 32)) rfl (by kernel_rfl) (by kernel_rfl) (by kernel_rfl) (fun _ _ _ h => h) (Or.inl ⟨by rfl, ?_⟩) h0 ?_
        · intro w' hS; clear hS
          go_simp
        try simp only [Act.put, List.setIfInBounds_toArray, List.set_cons_zero, List.set_cons_succ]
        refine wpAnyH_takeAt (i := 7) (v := .int .i64 ((A : Int) + (k : Int) * 32)) rfl (by kernel_rfl) (by kernel_rfl) (by kernel_rfl) (fun _ _ _ h => h) (Or.inl ⟨by rfl, ?_⟩) h0 ?_
        · intro w' hS; clear hS
          go_simp
        try simp only [Act.put, List.setIfInBounds_toArray, List.set_cons_zero, List.set_cons_succ]
        refine wpAnyH_ready (rs := [1, 8]) (by kernel_rfl) (by simp) (AllReadyH.cons (at_drop rfl) (fun K hK => ?_) (allReady_at rfl (fun K hK => ?_)))
        · have p8 := (three p0.box).1.2.2
          go_simp
          have g1 : PBox w E F _ := p0.pbox
          refine hK.out _ _ g1 (fun _ => ?_)
          clear hK K
          try simp only [Act.put, List.setIfInBounds_toArray, List.set_cons_zero, List.set_cons_succ]
          refine wpAnyH_ready (rs := [8]) (by kernel_rfl) (by simp) (allReady_at rfl (fun K hK => ?_))
          go_simp
          refine (row_at s _ (A + 32 * k) (by omega) (by omega) hl _).mono ?_
          rintro e w1 ⟨rfl, hb1⟩
          dsimp only
          have p1 := p0.below hb1
          have h1 := p1.pbox
          refine hK.out _ _ h1 (fun _ => ?_)
          clear hK K
          try simp only [Act.put, List.setIfInBounds_toArray, List.set_cons_zero, List.set_cons_succ]
          refine wpAnyH_ready (rs := [9]) (by kernel_rfl) (by simp) (allReady_at rfl (fun K hK => ?_))
          go_simp
          refine (segment_any s (A + 32 * k) hl _).mono ?_
          rintro e w2 ⟨he, hb2⟩
          rw [H0.out, ends_zero, ← HX.out] at he
          unfold segV at he
          subst he
          dsimp only
          have p2 := p1.below hb2
          have h2 := p2.pbox
          refine hK.out _ _ h2 (fun _ => ?_)
          clear hK K
          try simp only [Act.put, List.setIfInBounds_toArray, List.set_cons_zero, List.set_cons_succ]
          refine wpAnyH_ready (rs := [10]) (by kernel_rfl) (by simp) (allReady_at rfl (fun K hK => ?_))
          go_simp
          have p3 := p2.below ((Below.refl _ w2).alloc (Nat.le_refl _) (.cells #[.int .u32 (x.addr.toNat : Int), .string ⟨x.data.toArray⟩, .int .i64 x.size, .int .i64 x.flags] 36))
          have h3 := p3.pbox
          refine hK.out _ _ h3 (fun _ => ?_)
          clear hK K
          try simp only [Act.put, List.setIfInBounds_toArray, List.set_cons_zero, List.set_cons_succ]
          refine wpAnyH_ready (rs := [11]) (by kernel_rfl) (by simp) (allReady_at rfl (fun K hK => ?_))
          rw [if_pos (by rfl)]
          refine wp_append_own _ _ _ 23 rfl (w.heap.size + 2) 36 i0 (.agg #[.int .u32 0, .string ⟨#[]⟩, .int .i64 0, .int .i64 0]) 4 40 Try.underlying23 hi hz0 hz1 hz2 rfl (by decide) v (segs s A k).length (csS (segs s A k)) rfl p3.own ⟨w2.heap.size, 0, none⟩ 1 1 [.int .u32 (x.addr.toNat : Int), .string ⟨x.data.toArray⟩, .int .i64 x.size, .int .i64 x.flags] rfl rfl (cell_four_new w2 _ _ _ _ _) (by simp [Value.oneCell']) (by rw [segs_len]; unfold maxLen; omega) (by rw [segs_len]; omega) (by have := p3.sz; omega) ?_
          intro v' w4 hown hgrow _
          obtain ⟨pp, nn, cc, rfl⟩ := own_slice hown
          obtain ⟨r4, b4, l4⟩ := p3.grown hgrow
          have h4 : PBox w E F w4 := ⟨r4, ⟨v, b4⟩, l4⟩
          refine hK.out _ _ h4 (fun _ => ?_)
          clear hK K
          try simp only [Act.put, List.setIfInBounds_toArray, List.set_cons_zero, List.set_cons_succ]
          refine wpAnyH_takeAt (i := 12) (v := ?_) rfl (by kernel_rfl) (by kernel_rfl) (by kernel_rfl) (fun _ _ _ h => h) (Or.inl ⟨by rfl, ?_⟩) h4 ?_
          rotate_left 1
          · intro w' hS; clear hS
            go_simp <;> with_reducible rfl
          try simp only [Act.put, List.setIfInBounds_toArray, List.set_cons_zero, List.set_cons_succ]
          refine wpAnyH_ready (rs := [13]) (by kernel_rfl) (by simp) (allReady_at rfl (fun K hK => ?_))
          obtain ⟨⟨q0, q1, q2⟩, f0, f1, f2⟩ := three b4
          go_simp
          have p5 : PAt w E F (.slice pp nn cc) (segs s A (k + 1)) (w4.setCell ⟨w.heap.size + 1, 2, none⟩ (.slice pp nn cc)) := PAt.put r4 b4 l4 (by rw [segs_snoc, csS_app, List.length_append, ← HX.out]; exact hown)
          have h5 : PBox w E F _ := p5.pbox
          refine hK.out _ _ h5 (fun _ => ?_)
          clear hK K
          try simp only [Act.put, List.setIfInBounds_toArray, List.set_cons_zero, List.set_cons_succ]
          refine wpAnyH_done (by kernel_rfl) ?_ _
          refine NoPanic.normal ?_
          go_wp2_with fail
          go_roundg q
          case measure => omega
          case rel => exact ⟨k + 1, _, by omega, by simp, by rw [rowsE_snoc, HR.out]; simp [H0.out], p5⟩
        · go_simp
          refine (row_at s _ (A + 32 * k) (by omega) (by omega) hl _).mono ?_
          rintro e w1 ⟨rfl, hb1⟩
          dsimp only
          have p1 := p0.below hb1
          have h1 := p1.pbox
          refine hK.out _ _ h1 (fun _ => ?_)
          clear hK K
          try simp only [Act.put, List.setIfInBounds_toArray, List.set_cons_zero, List.set_cons_succ]
          refine wpAnyH_ready (rs := [1, 9]) (by kernel_rfl) (by simp) (AllReadyH.cons (at_drop rfl) (fun K hK => ?_) (allReady_at rfl (fun K hK => ?_)))
          · have p8 := (three p1.box).1.2.2
            go_simp
            have g1 : PBox w E F _ := p1.pbox
            refine hK.out _ _ g1 (fun _ => ?_)
            clear hK K
            try simp only [Act.put, List.setIfInBounds_toArray, List.set_cons_zero, List.set_cons_succ]
            refine wpAnyH_ready (rs := [9]) (by kernel_rfl) (by simp) (allReady_at rfl (fun K hK => ?_))
            go_simp
            refine (segment_any s (A + 32 * k) hl _).mono ?_
            rintro e w2 ⟨he, hb2⟩
            rw [H0.out, ends_zero, ← HX.out] at he
            unfold segV at he
            subst he
            dsimp only
            have p2 := p1.below hb2
            have h2 := p2.pbox
            refine hK.out _ _ h2 (fun _ => ?_)
            clear hK K
            try simp only [Act.put, List.setIfInBounds_toArray, List.set_cons_zero, List.set_cons_succ]
            refine wpAnyH_ready (rs := [10]) (by kernel_rfl) (by simp) (allReady_at rfl (fun K hK => ?_))
            go_simp
            have p3 := p2.below ((Below.refl _ w2).alloc (Nat.le_refl _) (.cells #[.int .u32 (x.addr.toNat : Int), .string ⟨x.data.toArray⟩, .int .i64 x.size, .int .i64 x.flags] 36))
            have h3 := p3.pbox
            refine hK.out _ _ h3 (fun _ => ?_)
            clear hK K
            try simp only [Act.put, List.setIfInBounds_toArray, List.set_cons_zero, List.set_cons_succ]
            refine wpAnyH_ready (rs := [11]) (by kernel_rfl) (by simp) (allReady_at rfl (fun K hK => ?_))
            rw [if_pos (by rfl)]
            refine wp_append_own _ _ _ 23 rfl (w.heap.size + 2) 36 i0 (.agg #[.int .u32 0, .string ⟨#[]⟩, .int .i64 0, .int .i64 0]) 4 40 Try.underlying23 hi hz0 hz1 hz2 rfl (by decide) v (segs s A k).length (csS (segs s A k)) rfl p3.own ⟨w2.heap.size, 0, none⟩ 1 1 [.int .u32 (x.addr.toNat : Int), .string ⟨x.data.toArray⟩, .int .i64 x.size, .int .i64 x.flags] rfl rfl (cell_four_new w2 _ _ _ _ _) (by simp [Value.oneCell']) (by rw [segs_len]; unfold maxLen; omega) (by rw [segs_len]; omega) (by have := p3.sz; omega) ?_
            intro v' w4 hown hgrow _
            obtain ⟨pp, nn, cc, rfl⟩ := own_slice hown
            obtain ⟨r4, b4, l4⟩ := p3.grown hgrow
            have h4 : PBox w E F w4 := ⟨r4, ⟨v, b4⟩, l4⟩
            refine hK.out _ _ h4 (fun _ => ?_)
            clear hK K
            try simp only [Act.put, List.setIfInBounds_toArray, List.set_cons_zero, List.set_cons_succ]
            refine wpAnyH_takeAt (i := 12) (v := ?_) rfl (by kernel_rfl) (by kernel_rfl) (by kernel_rfl) (fun _ _ _ h => h) (Or.inl ⟨by rfl, ?_⟩) h4 ?_
            rotate_left 1
            · intro w' hS; clear hS
              go_simp <;> with_reducible rfl
            try simp only [Act.put, List.setIfInBounds_toArray, List.set_cons_zero, List.set_cons_succ]
            refine wpAnyH_ready (rs := [13]) (by kernel_rfl) (by simp) (allReady_at rfl (fun K hK => ?_))
            obtain ⟨⟨q0, q1, q2⟩, f0, f1, f2⟩ := three b4
            go_simp
            have p5 : PAt w E F (.slice pp nn cc) (segs s A (k + 1)) (w4.setCell ⟨w.heap.size + 1, 2, none⟩ (.slice pp nn cc)) := PAt.put r4 b4 l4 (by rw [segs_snoc, csS_app, List.length_append, ← HX.out]; exact hown)
            have h5 : PBox w E F _ := p5.pbox
            refine hK.out _ _ h5 (fun _ => ?_)
            clear hK K
            try simp only [Act.put, List.setIfInBounds_toArray, List.set_cons_zero, List.set_cons_succ]
            refine wpAnyH_done (by kernel_rfl) ?_ _
            refine NoPanic.normal ?_
            go_wp2_with fail
            go_roundg q
            case measure => omega
            case rel => exact ⟨k + 1, _, by omega, by simp, by rw [rowsE_snoc, HR.out]; simp [H0.out], p5⟩
          · go_simp
            refine (segment_any s (A + 32 * k) hl _).mono ?_
            rintro e w2 ⟨he, hb2⟩
            rw [H0.out, ends_zero, ← HX.out] at he
            unfold segV at he
            subst he
            dsimp only
            have p2 := p1.below hb2
            have h2 := p2.pbox
            refine hK.out _ _ h2 (fun _ => ?_)
            clear hK K
            try simp only [Act.put, List.setIfInBounds_toArray, List.set_cons_zero, List.set_cons_succ]
            refine wpAnyH_ready (rs := [1, 10]) (by kernel_rfl) (by simp) (AllReadyH.cons (at_drop rfl) (fun K hK => ?_) (allReady_at rfl (fun K hK => ?_)))
            · have p8 := (three p2.box).1.2.2
              go_simp
              have g1 : PBox w E F _ := p2.pbox
              refine hK.out _ _ g1 (fun _ => ?_)
              clear hK K
              try simp only [Act.put, List.setIfInBounds_toArray, List.set_cons_zero, List.set_cons_succ]
              refine wpAnyH_ready (rs := [10]) (by kernel_rfl) (by simp) (allReady_at rfl (fun K hK => ?_))
              go_simp
              have p3 := p2.below ((Below.refl _ w2).alloc (Nat.le_refl _) (.cells #[.int .u32 (x.addr.toNat : Int), .string ⟨x.data.toArray⟩, .int .i64 x.size, .int .i64 x.flags] 36))
              have h3 := p3.pbox
              refine hK.out _ _ h3 (fun _ => ?_)
              clear hK K
              try simp only [Act.put, List.setIfInBounds_toArray, List.set_cons_zero, List.set_cons_succ]
              refine wpAnyH_ready (rs := [11]) (by kernel_rfl) (by simp) (allReady_at rfl (fun K hK => ?_))
              rw [if_pos (by rfl)]
              refine wp_append_own _ _ _ 23 rfl (w.heap.size + 2) 36 i0 (.agg #[.int .u32 0, .string ⟨#[]⟩, .int .i64 0, .int .i64 0]) 4 40 Try.underlying23 hi hz0 hz1 hz2 rfl (by decide) v (segs s A k).length (csS (segs s A k)) rfl p3.own ⟨w2.heap.size, 0, none⟩ 1 1 [.int .u32 (x.addr.toNat : Int), .string ⟨x.data.toArray⟩, .int .i64 x.size, .int .i64 x.flags] rfl rfl (cell_four_new w2 _ _ _ _ _) (by simp [Value.oneCell']) (by rw [segs_len]; unfold maxLen; omega) (by rw [segs_len]; omega) (by have := p3.sz; omega) ?_
              intro v' w4 hown hgrow _
              obtain ⟨pp, nn, cc, rfl⟩ := own_slice hown
              obtain ⟨r4, b4, l4⟩ := p3.grown hgrow
              have h4 : PBox w E F w4 := ⟨r4, ⟨v, b4⟩, l4⟩
              refine hK.out _ _ h4 (fun _ => ?_)
              clear hK K
              try simp only [Act.put, List.setIfInBounds_toArray, List.set_cons_zero, List.set_cons_succ]
              refine wpAnyH_takeAt (i := 12) (v := ?_) rfl (by kernel_rfl) (by kernel_rfl) (by kernel_rfl) (fun _ _ _ h => h) (Or.inl ⟨by rfl, ?_⟩) h4 ?_
              rotate_left 1
              · intro w' hS; clear hS
                go_simp <;> with_reducible rfl
              try simp only [Act.put, List.setIfInBounds_toArray, List.set_cons_zero, List.set_cons_succ]
              refine wpAnyH_ready (rs := [13]) (by kernel_rfl) (by simp) (allReady_at rfl (fun K hK => ?_))
              obtain ⟨⟨q0, q1, q2⟩, f0, f1, f2⟩ := three b4
              go_simp
              have p5 : PAt w E F (.slice pp nn cc) (segs s A (k + 1)) (w4.setCell ⟨w.heap.size + 1, 2, none⟩ (.slice pp nn cc)) := PAt.put r4 b4 l4 (by rw [segs_snoc, csS_app, List.length_append, ← HX.out]; exact hown)
              have h5 : PBox w E F _ := p5.pbox
              refine hK.out _ _ h5 (fun _ => ?_)
              clear hK K
              try simp only [Act.put, List.setIfInBounds_toArray, List.set_cons_zero, List.set_cons_succ]
              refine wpAnyH_done (by kernel_rfl) ?_ _
              refine NoPanic.normal ?_
              go_wp2_with fail
              go_roundg q
              case measure => omega
              case rel => exact ⟨k + 1, _, by omega, by simp, by rw [rowsE_snoc, HR.out]; simp [H0.out], p5⟩
            · go_simp
              have p3 := p2.below ((Below.refl _ w2).alloc (Nat.le_refl _) (.cells #[.int .u32 (x.addr.toNat : Int), .string ⟨x.data.toArray⟩, .int .i64 x.size, .int .i64 x.flags] 36))
              have h3 := p3.pbox
              refine hK.out _ _ h3 (fun _ => ?_)
              clear hK K
              try simp only [Act.put, List.setIfInBounds_toArray, List.set_cons_zero, List.set_cons_succ]
              refine wpAnyH_ready (rs := [1]) (by kernel_rfl) (by simp) (allReady_at rfl (fun K hK => ?_))
              have p8 := (three p3.box).1.2.2
              go_simp
              have g1 : PBox w E F _ := p3.pbox
              refine hK.out _ _ g1 (fun _ => ?_)
              clear hK K
              try simp only [Act.put, List.setIfInBounds_toArray, List.set_cons_zero, List.set_cons_succ]
              refine wpAnyH_ready (rs := [11]) (by kernel_rfl) (by simp) (allReady_at rfl (fun K hK => ?_))
              rw [if_pos (by rfl)]
              refine wp_append_own _ _ _ 23 rfl (w.heap.size + 2) 36 i0 (.agg #[.int .u32 0, .string ⟨#[]⟩, .int .i64 0, .int .i64 0]) 4 40 Try.underlying23 hi hz0 hz1 hz2 rfl (by decide) v (segs s A k).length (csS (segs s A k)) rfl p3.own ⟨w2.heap.size, 0, none⟩ 1 1 [.int .u32 (x.addr.toNat : Int), .string ⟨x.data.toArray⟩, .int .i64 x.size, .int .i64 x.flags] rfl rfl (cell_four_new w2 _ _ _ _ _) (by simp [Value.oneCell']) (by rw [segs_len]; unfold maxLen; omega) (by rw [segs_len]; omega) (by have := p3.sz; omega) ?_
              intro v' w4 hown hgrow _
              obtain ⟨pp, nn, cc, rfl⟩ := own_slice hown
              obtain ⟨r4, b4, l4⟩ := p3.grown hgrow
              have h4 : PBox w E F w4 := ⟨r4, ⟨v, b4⟩, l4⟩
              refine hK.out _ _ h4 (fun _ => ?_)
              clear hK K
              try simp only [Act.put, List.setIfInBounds_toArray, List.set_cons_zero, List.set_cons_succ]
              refine wpAnyH_takeAt (i := 12) (v := ?_) rfl (by kernel_rfl) (by kernel_rfl) (by kernel_rfl) (fun _ _ _ h => h) (Or.inl ⟨by rfl, ?_⟩) h4 ?_
              rotate_left 1
              · intro w' hS; clear hS
                go_simp <;> with_reducible rfl
              try simp only [Act.put, List.setIfInBounds_toArray, List.set_cons_zero, List.set_cons_succ]
              refine wpAnyH_ready (rs := [13]) (by kernel_rfl) (by simp) (allReady_at rfl (fun K hK => ?_))
              obtain ⟨⟨q0, q1, q2⟩, f0, f1, f2⟩ := three b4
              go_simp
              have p5 : PAt w E F (.slice pp nn cc) (segs s A (k + 1)) (w4.setCell ⟨w.heap.size + 1, 2, none⟩ (.slice pp nn cc)) := PAt.put r4 b4 l4 (by rw [segs_snoc, csS_app, List.length_append, ← HX.out]; exact hown)
              have h5 : PBox w E F _ := p5.pbox
              refine hK.out _ _ h5 (fun _ => ?_)
              clear hK K
              try simp only [Act.put, List.setIfInBounds_toArray, List.set_cons_zero, List.set_cons_succ]
              refine wpAnyH_done (by kernel_rfl) ?_ _
              refine NoPanic.normal ?_
              go_wp2_with fail
              go_roundg q
              case measure => omega
              case rel => exact ⟨k + 1, _, by omega, by simp, by rw [rowsE_snoc, HR.out]; simp [H0.out], p5⟩
      · have H0 := hideE h0
        have HK : Hid (KK = rowE s (A + 32 * k)) := by
          have := rowsE_stop s A N k (by omega) HR.out h0
          show KK = _
          rw [HKK.out, this, if_pos h0]
        clear h0
        go_wp2_with fail
        refine wp_region_held_drew (S := PBox w E F) (by kernel_rfl) p0.pbox (fun h0 => ?_)
        refine wpAnyH_takeAt (i := 0) (v := ?_) rfl (by kernel_rfl) (by kernel_rfl) (by kernel_rfl) (fun _ _ _ h => h) (Or.inl ⟨by rfl, ?_⟩) h0 ?_
        rotate_left 1
        · intro w' hS; clear hS
          go_simp <;> with_reducible rfl
        try simp only [Act.put, List.setIfInBounds_toArray, List.set_cons_zero, List.set_cons_succ]
        refine wpAnyH_takeAt (i := 2) (v := ?_) rfl (by kernel_rfl) (by kernel_rfl) (by kernel_rfl) (fun _ _ _ h => h) (Or.inl ⟨by rfl, ?_⟩) h0 ?_
        rotate_left 1
        · intro w' hS; clear hS
          go_simp <;> with_reducible rfl
        try simp only [Act.put, List.setIfInBounds_toArray, List.set_cons_zero, List.set_cons_succ]
        refine wpAnyH_takeAt (i := 3) (v := ?_) rfl (by kernel_rfl) (by kernel_rfl) (by kernel_rfl) (fun _ _ _ h => h) (Or.inl ⟨by rfl, ?_⟩) h0 ?_
        rotate_left 1
        · intro w' hS; clear hS
          go_simp <;> with_reducible rfl
        try simp only [Act.put, List.setIfInBounds_toArray, List.set_cons_zero, List.set_cons_succ]
        refine wpAnyH_takeAt (i := 4) (v := ?_) rfl (by kernel_rfl) (by kernel_rfl) (by kernel_rfl) (fun _ _ _ h => h) (Or.inl ⟨by rfl, ?_⟩) h0 ?_
        rotate_left 1
        · intro w' hS; clear hS
          go_simp <;> with_reducible rfl
        try simp only [Act.put, List.setIfInBounds_toArray, List.set_cons_zero, List.set_cons_succ]
        refine wpAnyH_takeAt (i := 5) (v := ?_) rfl (by kernel_rfl) (by kernel_rfl) (by kernel_rfl) (fun _ _ _ h => h) (Or.inl ⟨by rfl, ?_⟩) h0 ?_
        rotate_left 1
        · intro w' hS; clear hS
          go_simp <;> with_reducible rfl
        try simp only [Act.put, List.setIfInBounds_toArray, List.set_cons_zero, List.set_cons_succ]
        refine wpAnyH_takeAt (i := 6) (v := .int .i64 ((k : Int) * 32)) rfl (by kernel_rfl) (by kernel_rfl) (by kernel_rfl) (fun _ _ _ h => h) (Or.inl ⟨by rfl, ?_⟩) h0 ?_
        · intro w' hS; clear hS
          go_simp
        try simp only [Act.put, List.setIfInBounds_toArray, List.set_cons_zero, List.set_cons_succ]
        refine wpAnyH_takeAt (i := 7) (v := .int .i64 ((A : Int) + (k : Int) * 32)) rfl (by kernel_rfl) (by kernel_rfl) (by kernel_rfl) (fun _ _ _ h => h) (Or.inl ⟨by rfl, ?_⟩) h0 ?_
        · intro w' hS; clear hS
          go_simp
        try simp only [Act.put, List.setIfInBounds_toArray, List.set_cons_zero, List.set_cons_succ]
        refine wpAnyH_ready (rs := [1, 8]) (by kernel_rfl) (by simp) (AllReadyH.cons (at_drop rfl) (fun K hK => ?_) (allReady_at rfl (fun K hK => ?_)))
        · have p8 := (three p0.box).1.2.2
          go_simp
          have g1 : PBox w E F _ := p0.pbox
          refine hK.out _ _ g1 (fun _ => ?_)
          clear hK K
          try simp only [Act.put, List.setIfInBounds_toArray, List.set_cons_zero, List.set_cons_succ]
          refine wpAnyH_ready (rs := [8]) (by kernel_rfl) (by simp) (allReady_at rfl (fun K hK => ?_))
          go_simp
          refine (row_at s _ (A + 32 * k) (by omega) (by omega) hl _).mono ?_
          rintro e w1 ⟨rfl, hb1⟩
          dsimp only
          have p1 := p0.below hb1
          have h1 := p1.pbox
          refine hK.out _ _ h1 (fun _ => ?_)
          clear hK K
          try simp only [Act.put, List.setIfInBounds_toArray, List.set_cons_zero, List.set_cons_succ]
          refine wpAnyH_ready (rs := [9]) (by kernel_rfl) (by simp) (allReady_at rfl (fun K hK => ?_))
          go_simp
          refine (segment_any s (A + 32 * k) hl _).mono ?_
          rintro e w2 ⟨he, hb2⟩
          rw [ends_odd H0.out] at he
          subst he
          exact ⟨rfl, .nilIface, by rw [HK.out, ends_odd H0.out], fun h => absurd (HK.out.symm.trans h) H0.out, (p1.below hb2).low⟩
        · go_simp
          refine (row_at s _ (A + 32 * k) (by omega) (by omega) hl _).mono ?_
          rintro e w1 ⟨rfl, hb1⟩
          dsimp only
          have p1 := p0.below hb1
          have h1 := p1.pbox
          refine hK.out _ _ h1 (fun _ => ?_)
          clear hK K
          try simp only [Act.put, List.setIfInBounds_toArray, List.set_cons_zero, List.set_cons_succ]
          refine wpAnyH_ready (rs := [1, 9]) (by kernel_rfl) (by simp) (AllReadyH.cons (at_drop rfl) (fun K hK => ?_) (allReady_at rfl (fun K hK => ?_)))
          · have p8 := (three p1.box).1.2.2
            go_simp
            have g1 : PBox w E F _ := p1.pbox
            refine hK.out _ _ g1 (fun _ => ?_)
            clear hK K
            try simp only [Act.put, List.setIfInBounds_toArray, List.set_cons_zero, List.set_cons_succ]
            refine wpAnyH_ready (rs := [9]) (by kernel_rfl) (by simp) (allReady_at rfl (fun K hK => ?_))
            go_simp
            refine (segment_any s (A + 32 * k) hl _).mono ?_
            rintro e w2 ⟨he, hb2⟩
            rw [ends_odd H0.out] at he
            subst he
            exact ⟨rfl, .nilIface, by rw [HK.out, ends_odd H0.out], fun h => absurd (HK.out.symm.trans h) H0.out, (p1.below hb2).low⟩
          · go_simp
            refine (segment_any s (A + 32 * k) hl _).mono ?_
            rintro e w2 ⟨he, hb2⟩
            rw [ends_odd H0.out] at he
            subst he
            exact ⟨rfl, .nilIface, by rw [HK.out, ends_odd H0.out], fun h => absurd (HK.out.symm.trans h) H0.out, (p1.below hb2).low⟩
end Go.Proofs.Ytegfpbffgnpebaa
