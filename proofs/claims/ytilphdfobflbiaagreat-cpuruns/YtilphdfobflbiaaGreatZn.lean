/-
  A run of a machine: what it answers, and the memory then.
-/
import Derived.Deep.CutRange
import Derived.Test.YtilphdfobflbiaaGreatZm
namespace Go.Proofs.YtilphdfobflbiaaGreat
open Go.RowKit Go.Maps Cp Ip Mm
set_option linter.unusedSimpArgs false

/-- What Run tells. -/
def ToldR (w : World) (pb bm : Nat) (r : Res) (e : Ending) (w' : World) : Prop :=
  ∃ v, e = .returned (.tuple #[.agg (cells r.c), v, .int .i64 r.e, .int .i64 (r.n : Int)]) ∧ MemAt w' pb bm r.l ∧ w.grownBy w' (some bm) ∧ w'.ownsRow w.heap.size 77 8 v r.calls.length (askAll r.calls)
theorem RunAt.told {w W : World} {c d : Mach} {pb bm : Nat} {l : Cs} {v : Value} {L : List Mach} (h : RunAt w c pb bm l v L W) {r : Res} {k e : Int} (hr : r = ⟨d, l, L, e, k.toNat⟩) (hk : 0 ≤ k) (hp : pb < w.heap.size) (hb : bm < w.heap.size) :
    ToldR w pb bm r (.returned (.tuple #[.agg (cells d), v, .int .i64 e, .int .i64 k])) (W.setRow (w.heap.size + 1) (cells d)) := by
  subst hr
  have lo : Below w.heap.size W (W.setRow (w.heap.size + 1) (cells d)) := below_row (Below.refl _ _) (by omega) _
  exact ⟨v, by rw [show ((k.toNat : Nat) : Int) = k by omega], h.mem.low lo hp hb, grown_then h.gro lo, World.ownsRow.mono (own_kept h.own (grown_row _ _) (by omega)) (by omega)⟩
def AnsS (w : World) (b o : Nat) (a : BitVec 32) (W : World) : Prop := W.cell? ⟨b, o, none⟩ = some (.int .u32 (a.toNat : Int)) ∧ b < w.heap.size
theorem ansS_reg {w W : World} {b o : Nat} {a : BitVec 32} (h : AnsS w b o a W) {i : Nat} {v : Value} : AnsS w b o a (W.setCell ⟨w.heap.size, i, none⟩ v) := by
  refine ⟨?_, h.2⟩
  have := h.1
  unfold World.cell? at this ⊢
  rw [heap_setCell_other W _ b v (by have := h.2; simp; omega)]; exact this

theorem ansAt_tail {w : World} {b o cp : Nat} {a0 : BitVec 32} {r : List (BitVec 32)} (h : AnsAt w (.slice (some ⟨b, o, none⟩) (r.length + 1) cp) (a0 :: r)) : AnsAt w (.slice (if cp = 1 then some ⟨b, o, none⟩ else some ⟨b, o + 1, none⟩) r.length (cp - 1)) r := by
  obtain ⟨ad, cap, e, hc, f⟩ := h
  simp only [Value.slice.injEq] at e
  obtain ⟨e1, _, e3⟩ := e
  subst e1 e3
  simp only [List.length_cons] at hc
  refine ⟨_, _, rfl, by omega, fun i hi => ?_⟩
  obtain ⟨b', o', e, q⟩ := f (i + 1) (by simp; omega)
  simp only [Option.some.injEq, Addr.mk.injEq, and_true] at e
  obtain ⟨rfl, rfl⟩ := e
  refine ⟨b, o + 1, by rw [if_neg (by omega)], ?_⟩
  rw [show o + 1 + i = o + (i + 1) by omega]
  simpa using q
theorem ask_new (w : World) (d : Mach) : ∀ j u, (askL d)[j]? = some u → (w.alloc (.cells (askL d).toArray 77)).cell? ((⟨w.heap.size, 0, none⟩ : Addr).add j) = some u := by
  intro j u hj
  rw [show (⟨w.heap.size, 0, none⟩ : Addr).add j = ⟨w.heap.size, j, none⟩ by unfold Addr.add; split <;> simp_all, cell_of_row _ _ j _ _ _ (heap_alloc_new w _)]
  simpa using hj
theorem wpList_ask {ops : Array Oper} {rest : List Oper} {o : Oper} {a : Act} {w : World} {Q : Exit → Act → World → Prop} (d : Mach) (hg : o.guard = none) (x : Operand) (ho : o.op = .buildSlice 43 1 #[(0, x)]) (hx : a.eval x = .agg (askL d).toArray)
    (h : wpList Tryz.prog ops Q rest (a.put o.dst (.slice (some ⟨w.heap.size, 0, none⟩) 1 1)) (w.alloc (.cells (askL d).toArray 77))) : wpList Tryz.prog ops Q (o :: rest) a w := by
  obtain ⟨i0, hi, hz0, hz1, hz2⟩ := info_parts infoK2
  refine wpList_buildSlice hg 43 77 1 #[(0, x)] ho (askL d).toArray i0 (.agg zero8.toArray) Tryz.underlying43 hi hz0 (by rw [hz1]; decide) (by rw [hz1]; decide) ?_ h
  rw [hz1]
  have e : (#[(0, x)].map fun (i, x) => (i, a.eval x)).toList = [(0, .agg (askL d).toArray)] := by simp [hx]
  rw [e]
  exact fillK d
set_option maxRecDepth 100000 in
set_option maxHeartbeats 8000000 in
theorem run_any {pb bm : Nat} {l : Cs} (c : Mach) (av : Value) (zs : List (BitVec 32)) (fuel : Int) (hfu : fuel ≤ 65536) (w : World) (hm : MemAt w pb bm l) (ha : AnsAt w av zs) :
    Calls Tryz.prog 11 #[.agg (cells c), .pointer (some ⟨pb, 0, none⟩), av, .int .i64 fuel] w fun e w' => ToldR w pb bm (runM fuel.toNat (zr c) l zs) e w' := by
  have hz := zeroC
  have hc0 : ((cells c)[0]?) = some (.int .u32 ((c.x 0).toNat : Int)) := cells_x c 0 (by omega)
  have hcs := cells_size c
  have hcz := cells_zr c
  have hl := hm.lt
  have hl' := hm.lt'
  obtain ⟨i0, hi, hz0, hz1, hz2⟩ := info_parts infoK2
  have A0 := at2_start w (zr c) hm
  have R0 : RunAt w (zr c) pb bm l (.slice none 0 0) [] ((w.alloc (.cells (cells (zr c)) 25)).alloc (.cells (cells nought) 25)) := ⟨A0.box, A0.res, A0.mem, grown_of_below A0.low, World.ownsRow_nil _ _ _ _⟩
  clear A0
  go_enter Tryz.func11, Tryz.ntmps11
  go_wp2_with fail
  clear hc0 hcs hcz
  go_loopw [2, 12, 18] (fun a v i W => ∃ (k : Nat) (d : Mach) (m : Cs) (ys : List (BitVec 32)) (L : List Mach), i = .int .i64 k ∧ (k : Int) ≤ max fuel 0 ∧ AnsAt w a ys ∧ RunAt w d pb bm m v L W ∧ L.length ≤ k ∧ Hid (runM fuel.toNat (zr c) l zs = pre L k (runM (fuel.toNat - k) d m ys))) (fun _ _ i _ => (fuel - intOf i).toNat)
  case atStart => exact ⟨0, zr c, l, zs, [], rfl, by omega, ha, R0, Nat.le_refl _, by show _ = _; rw [pre_nil]; rfl⟩
  case round =>
    obtain ⟨k, d, m, ys, L, rfl, hk, hA, hR, hL, HE⟩ := hrel
    clear R0
    have HA := hideC hA
    obtain ⟨ad, cp, rfl, hcap, hcel⟩ := hA
    clear hcel
    by_cases hlt : (k : Int) < fuel
    · obtain ⟨f, hf⟩ : ∃ f, fuel.toNat - k = f + 1 := ⟨fuel.toNat - k - 1, by omega⟩
      have hf2 : fuel.toNat - (k + 1) = f := by omega
      rw [hf] at HE
      have HF := hideC hf2
      clear hf hf2
      go_wp2_with (first
        | (refine wpList_load_row rfl 25 _ rfl w.heap.size rfl _ _ _ _ hR.box Tryz.underlying25 rfl (infoCs _) ?_))
      refine (step_any d _ hR.mem).mono ?_
      rintro e w1 ⟨rfl, hm1, hg1⟩
      have b1 : BoxC w1 w.heap.size d := Box.grown hR.box hg1 (by omega)
      have A2 := hR.step (d := (stepM d m).c) hl' hl hm1 hg1
      have S1 := run_call f d m
      have S2 := run_stop f d m
      have S3 := run_on f d m
      have S4 := run_end f d m
      have HS := hideC (And.intro S1 (And.intro S2 (And.intro S3 S4)))
      clear S1 S2 S3 S4 hm1 hg1
      generalize (stepM d m).c = d1 at A2 HS ⊢
      generalize (stepM d m).l = m1 at A2 HS ⊢
      generalize (stepM d m).e = e1 at HS ⊢
      by_cases h1 : e1 = 1
      · subst h1
        cases ys with
        | nil =>
          go_wp2_with (first
            | (refine wpList_store_row rfl 25 _ _ rfl w.heap.size _ rfl rfl _ _ b1 (infoCs _) (cells_same _ _) (cells_one _) ?_))
          refine (called_any _ A2.box).mono ?_
          rintro e w3 ⟨rfl, hb3⟩
          have A3 := A2.below hb3
          have A3' := A3.below ((Below.refl _ _).alloc (Nat.le_refl _) (.cells (askL d1).toArray 77))
          have hs3 := A3.res.lt
          clear A2 hb3 b1
          go_upto_region 10 with (first
            | (refine wpList_ask d1 rfl _ rfl rfl ?_)
            | (at_builtin; refine wpList_append_own _ rfl _ _ 43 rfl (w.heap.size + 2) 77 i0 (.agg zero8.toArray) 8 32 Tryz.underlying43 hi hz0 hz1 hz2 rfl (by decide) _ _ _ rfl A3'.own ⟨w3.heap.size, 0, none⟩ 1 1 (askL d1) rfl (by rw [askL_len]) (ask_new w3 d1) (askL_one d1) (by unfold maxLen; omega) (by omega) (by simp; omega) ?_; intro v' w4 hown' hgrow hnil)
            | go_in)
          have A4 := A3'.note (d := d1) hl' hl hgrow hown'
          clear A3 A3' hown' hgrow hnil
          go_wp2_with (first
            | (refine wpList_load_row rfl 25 _ rfl w.heap.size rfl _ _ _ _ A4.box Tryz.underlying25 rfl (infoCs _) ?_)
            | (refine wpList_store_row rfl 25 _ _ rfl (w.heap.size + 1) _ rfl rfl _ _ A4.res (infoCs _) (cells_same _ _) (cells_one _) ?_))
          have hr := (show runM fuel.toNat (zr c) l zs = ⟨d1, m1, L ++ [d1], 1, ((k : Int) + 1).toNat⟩ by rw [HE.out, HS.out.2.1 (by first | rfl | trivial)]; unfold pre; simp)
          exact bodyPost_ret (results_row_tmp3 (p := 8) (u := 9) (v := 10) (x := 11) (by kernel_rfl) _ _ (w.heap.size + 1) _ _ _ _ rfl (A4.res.setRow _) Tryz.underlying25 rfl (infoCs _)) rfl
            (A4.told hr (by omega) hl hl')
        | cons a0 r =>
          go_wp2_with (first
            | (refine wpList_store_row rfl 25 _ _ rfl w.heap.size _ rfl rfl _ _ b1 (infoCs _) (cells_same _ _) (cells_one _) ?_))
          refine (called_any _ A2.box).mono ?_
          rintro e w3 ⟨rfl, hb3⟩
          have A3 := A2.below hb3
          have A3' := A3.below ((Below.refl _ _).alloc (Nat.le_refl _) (.cells (askL d1).toArray 77))
          have hs3 := A3.res.lt
          clear A2 hb3 b1
          go_upto_region 10 with (first
            | (refine wpList_ask d1 rfl _ rfl rfl ?_)
            | (at_builtin; refine wpList_append_own _ rfl _ _ 43 rfl (w.heap.size + 2) 77 i0 (.agg zero8.toArray) 8 32 Tryz.underlying43 hi hz0 hz1 hz2 rfl (by decide) _ _ _ rfl A3'.own ⟨w3.heap.size, 0, none⟩ 1 1 (askL d1) rfl (by rw [askL_len]) (ask_new w3 d1) (askL_one d1) (by unfold maxLen; omega) (by omega) (by simp; omega) ?_; intro v' w4 hown' hgrow hnil)
            | go_in)
          have A4 := A3'.note (d := d1) hl' hl hgrow hown'
          clear A3 A3' hown' hgrow hnil
          obtain ⟨bq, oq, had, q0⟩ : ∃ bq oq, ad = some ⟨bq, oq, none⟩ ∧ w4.cell? ⟨bq, oq, none⟩ = some (.int .u32 (a0.toNat : Int)) := by
            obtain ⟨ad', cap', e', _, f'⟩ := ansAt_grown HA.out hm A4.gro
            obtain ⟨b, o, e2, q⟩ := f' 0 (by simp)
            simp only [Value.slice.injEq] at e'
            exact ⟨b, o, e'.1.trans e2, q⟩
          subst had
          have hbq : bq < w.heap.size := by
            obtain ⟨ad', cap', e', _, f'⟩ := HA.out
            obtain ⟨b, o, e2, q⟩ := f' 0 (by simp)
            simp only [Value.slice.injEq] at e'
            have e3 := e'.1.trans e2
            simp at e3
            rw [e3.1]; exact block_lt_of_cell q
          have s0 : AnsS w bq oq a0 w4.drew := ⟨q0, hbq⟩
          have hcap1 : (1 : Int) ≤ cp := by simp at hcap; omega
          have hlen1 : (1 : Int) ≤ (r.length : Int) + 1 := by omega
          go_wp2_with fail
          have A4 := A4.below (drewN_low w4 1 _)
          refine wp_region_noPanic ?_
          refine wp_region_held_drew (S := AnsS w bq oq a0) (by kernel_rfl) s0 (fun h0 => ?_)
          refine wpAnyH_takeAt (i := 0) (v := ?_) rfl (by kernel_rfl) (by kernel_rfl) (by kernel_rfl) (fun _ _ _ h => h) (Or.inl ⟨by rfl, ?_⟩) h0 ?_
          rotate_left 1
          · intro w' hS; have q1 := hS.1; clear hS
            go_simp <;> with_reducible rfl
          try simp only [Act.put, List.setIfInBounds_toArray, List.set_cons_zero, List.set_cons_succ]
          refine wpAnyH_takeAt (i := 1) (v := ?_) rfl (by kernel_rfl) (by kernel_rfl) (by kernel_rfl) (fun _ _ _ h => h) (Or.inl ⟨by rfl, ?_⟩) h0 ?_
          rotate_left 1
          · intro w' hS; have q1 := hS.1; clear hS
            go_simp <;> with_reducible rfl
          try simp only [Act.put, List.setIfInBounds_toArray, List.set_cons_zero, List.set_cons_succ]
          refine wpAnyH_takeAt (i := 2) (v := ?_) rfl (by kernel_rfl) (by kernel_rfl) (by kernel_rfl) (fun _ _ _ h => h) (Or.inl ⟨by rfl, ?_⟩) h0 ?_
          rotate_left 1
          · intro w' hS; have q1 := hS.1; clear hS
            go_simp <;> with_reducible rfl
          try simp only [Act.put, List.setIfInBounds_toArray, List.set_cons_zero, List.set_cons_succ]
          refine wpAnyH_takeAt (i := 3) (v := ?_) rfl (by kernel_rfl) (by kernel_rfl) (by kernel_rfl) (fun _ _ _ h => h) (Or.inl ⟨by rfl, ?_⟩) h0 ?_
          rotate_left 1
          · intro w' hS; have q1 := hS.1; clear hS
            go_simp <;> with_reducible rfl
          try simp only [Act.put, List.setIfInBounds_toArray, List.set_cons_zero, List.set_cons_succ]
          refine wpAnyH_takeAt (i := 4) (v := ?_) rfl (by kernel_rfl) (by kernel_rfl) (by kernel_rfl) (fun _ _ _ h => h) (Or.inl ⟨by rfl, ?_⟩) h0 ?_
          rotate_left 1
          · intro w' hS; have q1 := hS.1; clear hS
            go_simp <;> with_reducible rfl
          try simp only [Act.put, List.setIfInBounds_toArray, List.set_cons_zero, List.set_cons_succ]
          refine wpAnyH_takeAt (i := 5) (v := ?_) rfl (by kernel_rfl) (by kernel_rfl) (by kernel_rfl) (fun _ _ _ h => h) (Or.inl ⟨by rfl, ?_⟩) h0 ?_
          rotate_left 1
          · intro w' hS; have q1 := hS.1; clear hS
            go_simp <;> with_reducible rfl
          try simp only [Act.put, List.setIfInBounds_toArray, List.set_cons_zero, List.set_cons_succ]
          refine wpAnyH_takeAt (i := 6) (v := ?_) rfl (by kernel_rfl) (by kernel_rfl) (by kernel_rfl) (fun _ _ _ h => h) (Or.inl ⟨by rfl, ?_⟩) h0 ?_
          rotate_left 1
          · intro w' hS; have q1 := hS.1; clear hS
            go_simp <;> with_reducible rfl
          try simp only [Act.put, List.setIfInBounds_toArray, List.set_cons_zero, List.set_cons_succ]
          refine wpAnyH_ready (rs := [7]) (by kernel_rfl) (by simp) (allReady_at rfl (fun K hK => ?_))
          have q8 : w4.cell? ⟨w.heap.size, 10, none⟩ = some (.int .u32 ((d1.x 10).toNat : Int)) := A4.box.reg 10 (by omega)
          have f8 : w4.frozen? ⟨w.heap.size, 10, none⟩ = false := A4.box.free 10
          go_simp
          have A5 : RunAt w (sx d1 10 a0) pb bm m1 v' (L ++ [d1]) (w4.setCell ⟨w.heap.size, 10, none⟩ (.int .u32 (a0.toNat : Int))).drew := A4.reg hl' hl a0
          have h5 : AnsS w bq oq a0 (w4.setCell ⟨w.heap.size, 10, none⟩ (.int .u32 (a0.toNat : Int))).drew := ansS_reg h0
          clear q8 f8
          refine hK.out _ _ h5 (fun _ => ?_)
          clear hK K
          try simp only [Act.put, List.setIfInBounds_toArray, List.set_cons_zero, List.set_cons_succ]
          refine wpAnyH_takeAt (i := 8) (v := ?_) rfl (by kernel_rfl) (by kernel_rfl) (by kernel_rfl) (fun _ _ _ h => h) (Or.inl ⟨by rfl, ?_⟩) h5 ?_
          rotate_left 1
          · intro w' hS; clear hS
            go_simp <;> with_reducible rfl
          try simp only [Act.put, List.setIfInBounds_toArray, List.set_cons_zero, List.set_cons_succ]
          refine wpAnyH_done (by kernel_rfl) ?_ _
          refine NoPanic.normal ?_
          go_wp2_with fail
          exact ⟨⟨k + 1, sx d1 10 a0, m1, r, L ++ [d1], by go_num, by omega, ansAt_tail HA.out, A5, by simp; omega, by show _ = _; rw [HE.out, HF.out, HS.out.1 _ _ (by first | rfl | trivial), pre_pre]⟩, by simp [intOf]; omega⟩
      · have h1b : (e1 == 1) = false := by simpa using h1
        by_cases h0 : e1 = 0
        · subst h0
          go_wp2_with (first
            | (refine wpList_store_row rfl 25 _ _ rfl w.heap.size _ rfl rfl _ _ b1 (infoCs _) (cells_same _ _) (cells_one _) ?_))
          exact ⟨⟨k + 1, d1, m1, ys, L, by go_num, by omega, HA.out, A2, by omega, by show _ = _; rw [HE.out, HF.out, HS.out.2.2.1 _ (by first | rfl | trivial), pre_pre]; simp⟩, by simp [intOf]; omega⟩
        · have h0b : (e1 != 0) = true := by simpa using h0
          go_upto_region 12 with (first
            | (refine wpList_store_row rfl 25 _ _ rfl w.heap.size _ rfl rfl _ _ b1 (infoCs _) (cells_same _ _) (cells_one _) ?_))
          go_wp2_with (first
            | (refine wpList_load_row rfl 25 _ rfl w.heap.size rfl _ _ _ _ A2.box Tryz.underlying25 rfl (infoCs _) ?_)
            | (refine wpList_store_row rfl 25 _ _ rfl (w.heap.size + 1) _ rfl rfl _ _ A2.res (infoCs _) (cells_same _ _) (cells_one _) ?_))
          have hr := (show runM fuel.toNat (zr c) l zs = ⟨d1, m1, L, e1, ((k : Int) + 1).toNat⟩ by rw [HE.out, HS.out.2.2.2 _ h1 h0]; unfold pre; simp)
          exact bodyPost_ret (results_row_tmp3 (p := 8) (u := 9) (v := 10) (x := 11) (by kernel_rfl) _ _ (w.heap.size + 1) _ _ _ _ rfl (A2.res.setRow _) Tryz.underlying25 rfl (infoCs _)) rfl
            (A2.told hr (by omega) hl hl')
    · have hk0 : fuel.toNat - k = 0 := by omega
      rw [hk0] at HE
      by_cases hf0 : 0 ≤ fuel
      · obtain rfl : fuel = (k : Int) := by omega
        go_wp2_with (first
          | (refine wpList_load_row rfl 25 _ rfl w.heap.size rfl _ _ _ _ hR.box Tryz.underlying25 rfl (infoCs _) ?_)
          | (refine wpList_store_row rfl 25 _ _ rfl (w.heap.size + 1) _ rfl rfl _ _ hR.res (infoCs _) (cells_same _ _) (cells_one _) ?_))
        have hr := (show runM (Int.toNat (k : Int)) (zr c) l zs = ⟨d, m, L, 6, ((k : Int)).toNat⟩ by rw [HE.out]; unfold pre runM; simp)
        exact bodyPost_ret (results_row_tmp3 (p := 8) (u := 9) (v := 10) (x := 11) (by kernel_rfl) _ _ (w.heap.size + 1) _ _ _ _ rfl (hR.res.setRow _) Tryz.underlying25 rfl (infoCs _)) rfl
          (hR.told hr (by omega) hl hl')
      · obtain rfl : k = 0 := by omega
        go_wp2_with (first
          | (refine wpList_load_row rfl 25 _ rfl w.heap.size rfl _ _ _ _ hR.box Tryz.underlying25 rfl (infoCs _) ?_)
          | (refine wpList_store_row rfl 25 _ _ rfl (w.heap.size + 1) _ rfl rfl _ _ hR.res (infoCs _) (cells_same _ _) (cells_one _) ?_))
        have hr := (show runM fuel.toNat (zr c) l zs = ⟨d, m, L, 6, (0 : Int).toNat⟩ by rw [HE.out]; unfold pre runM; simp)
        exact bodyPost_ret (results_row_tmp3 (p := 8) (u := 9) (v := 10) (x := 11) (by kernel_rfl) _ _ (w.heap.size + 1) _ _ _ _ rfl (hR.res.setRow _) Tryz.underlying25 rfl (infoCs _)) rfl
          (hR.told hr (by omega) hl hl')
end Go.Proofs.YtilphdfobflbiaaGreat
