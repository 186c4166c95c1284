/-
  A run of the document's machine: what it answers, and the memory then.
-/

import Derived.Test.YtilphdfobflbiaaGreatZn
import Derived.Test.YtilphdfobflbiaaGreatZq2
import Derived.Test.YtilphdfobflbiaaGreatZz
namespace Go.Proofs.YtilphdfobflbiaaGreat
open Go.RowKit Go.Maps Cp Ip Mm
set_option linter.unusedSimpArgs false

theorem refAt_kept {W W' : World} {B kb : Nat} {l : Cs} {row : Option Nat} (h : RefAt W B kb l) (hg : W.grownBy W' row) (hr : ∀ j, row = some j → ∃ cs t fr, W.heap[j]? = some (.cells cs t fr) ∧ t ≠ 40 ∧ t ≠ 66) : RefAt W' B kb l := by
  obtain ⟨v, hv, ho⟩ := h.got
  have n1 : some kb ≠ row := by
    intro e
    obtain ⟨cs, t, fr, q, t1, _⟩ := hr kb e.symm
    rw [hv] at q
    simp only [Option.some.injEq, Obj.cells.injEq] at q
    exact t1 q.2.1.symm
  refine ⟨⟨v, (hg.block kb (Array.getElem?_eq_some_iff.1 hv).1 n1).trans hv, ho.kept hg ?_⟩, h.rise, h.base⟩
  rcases ho.2 with ⟨rfl, _⟩ | ⟨g', cap, cur, rfl, _, hg', _⟩
  · exact .inl rfl
  · refine .inr fun e => ?_
    obtain ⟨cs, t, fr, q, _, t2⟩ := hr g' e.symm
    rw [hg'] at q
    simp only [Option.some.injEq, Obj.cells.injEq] at q
    exact t2 q.2.1.symm
theorem box_type {W : World} {g : Nat} {c : Mach} (h : BoxC W g c) : ∀ j, some g = some j → ∃ cs t fr, W.heap[j]? = some (.cells cs t fr) ∧ t ≠ 40 ∧ t ≠ 66 := by
  intro j e
  cases e
  exact ⟨_, _, _, h, by decide, by decide⟩
/-- The calls' cells, the first j of them noted. -/
def partK (d : Mach) (j : Nat) : Array Value := ((List.range 8).map fun i => if i < j then Value.int .u32 ((d.x (10 + i)).toNat : Int) else .int .u32 0).toArray
theorem partK_0 (d : Mach) : partK d 0 = zero8.toArray := rfl
theorem partK_8 (d : Mach) : partK d 8 = (askL d).toArray := by
  unfold partK askL row
  congr 1
theorem partK_size (d : Mach) (j : Nat) : (partK d j).size = 8 := by simp [partK]
theorem partK_at (d : Mach) (j i : Nat) (h : i < 8) : (partK d j)[i]? = some (if i < j then Value.int .u32 ((d.x (10 + i)).toNat : Int) else .int .u32 0) := by simp [partK, h]
theorem partK_set (d : Mach) (j : Nat) (h : j < 8) : (partK d j).setIfInBounds j (.int .u32 ((d.x (10 + j)).toNat : Int)) = partK d (j + 1) := by
  apply Array.ext_getElem?
  intro i
  rw [Array.getElem?_setIfInBounds]
  by_cases hi : i < 8
  · rw [partK_at d (j + 1) i hi]
    by_cases hj : j = i
    · subst hj
      rw [if_pos rfl, partK_size, if_pos h, if_pos (by omega)]
    · rw [if_neg hj, partK_at d j i hi]
      by_cases hij : i < j
      · rw [if_pos hij, if_pos (by omega)]
      · rw [if_neg hij, if_neg (by omega)]
  · rw [if_neg (by omega), Array.getElem?_eq_none (by rw [partK_size]; omega), Array.getElem?_eq_none (by rw [partK_size]; omega)]
theorem own_apartR {v : Value} {n g : Nat} (h : ∀ j, v.ownBlock = some j → j < n) (hg : n ≤ g) : v.ownBlock = none ∨ v.ownBlock ≠ some g := by
  cases e : v.ownBlock with
  | none => exact .inl rfl
  | some j => exact .inr (by have := h j e; simp; omega)

theorem ans_not_ref {w : World} {b o B kb : Nat} {a : BitVec 32} {l : Cs} (q : w.cell? ⟨b, o, none⟩ = some (.int .u32 (a.toNat : Int))) (h : RefAt w B kb l) : b ≠ kb := by
  rintro rfl
  obtain ⟨v, hv, ho⟩ := h.got
  rw [cell_of_row w b o _ _ _ hv] at q
  rcases ho.2 with ⟨rfl, _⟩ | ⟨g, cap, cur, rfl, _⟩
  all_goals
    cases o with
    | zero => simp at q
    | succ o => simp at q
/-- While a run is made. -/
structure RunRAt (w : World) (B kb : Nat) (c : Mach) (l : Cs) (v : Value) (L : List Mach) (W : World) : Prop where
  box : BoxC W w.heap.size c
  res : BoxC W (w.heap.size + 1) nought
  ref : RefAt W B kb l
  gro : w.grownBy W (some kb)
  own : W.ownsRow (w.heap.size + 2) 77 8 v L.length (askAll L)
/-- What Run tells. -/
def ToldRR (w : World) (B kb : Nat) (r : Res) (e : Ending) (w' : World) : Prop :=
  ∃ v, e = .returned (.tuple #[.agg (cells r.c), v, .int .i64 r.e, .int .i64 (r.n : Int)]) ∧ RefAt w' B kb r.l ∧ w.grownBy w' (some kb) ∧ w'.ownsRow w.heap.size 77 8 v r.calls.length (askAll r.calls)
section
variable {w W W' : World} {B kb : Nat} {c d : Mach} {l l' : Cs} {v v' : Value} {L : List Mach}
theorem RunRAt.told (h : RunRAt w B kb c l v L W) {r : Res} {k e : Int} (hr : r = ⟨d, l, L, e, k.toNat⟩) (hk : 0 ≤ k) : ToldRR w B kb r (.returned (.tuple #[.agg (cells d), v, .int .i64 e, .int .i64 k])) (W.setRow (w.heap.size + 1) (cells d)) := by
  subst hr
  exact ⟨v, by rw [show ((k.toNat : Nat) : Int) = k by omega], refAt_box h.ref h.res _, grown_then h.gro (below_row (Below.refl _ _) (by omega) _), World.ownsRow.mono (own_kept h.own (grown_row _ _) (by omega)) (by omega)⟩
theorem RunRAt.below (h : RunRAt w B kb c l v L W) (hb : Below W.heap.size W W') : RunRAt w B kb c l v L W' :=
  ⟨h.box.below hb, h.res.below hb, h.ref.below hb, grown_then h.gro (hb.mono h.gro.size), h.own.kept (row := none) ⟨hb.os, hb.tape, hb.output, hb.size, fun k hk _ => hb.block k hk⟩ (by cases v.ownBlock <;> simp)⟩
theorem RunRAt.step (h : RunRAt w B kb c l v L W) (hk : kb < w.heap.size) (hm : RefAt W' B kb l') (hg : W.grownBy W' (some kb)) : RunRAt w B kb c l' v L W' :=
  ⟨Box.grown h.box hg (by omega), Box.grown h.res hg (by omega), hm, grown_trans h.gro hg, own_kept h.own hg (by omega)⟩
theorem RunRAt.set (h : RunRAt w B kb c l v L W) (d : Mach) : RunRAt w B kb d l v L (W.setRow w.heap.size (cells d)) :=
  ⟨h.box.setRow d, h.res.otherRow _ _ (by omega), refAt_box h.ref h.box _, grown_then h.gro (below_row (Below.refl _ _) (Nat.le_refl _) _), own_kept h.own (grown_row _ _) (by omega)⟩
theorem RunRAt.reg (h : RunRAt w B kb c l v L W) (a : BitVec 32) : RunRAt w B kb (sx c 10 a) l v L (W.setCell ⟨w.heap.size, 10, none⟩ (.int .u32 (a.toNat : Int))) :=
  ⟨h.box.setx 10 (by omega) a, h.res.other _ _ (by simp), refAt_kept h.ref (grown_setCell W _ _ _) (box_type h.box), grown_then h.gro (below_cell1 (Below.refl _ _) (Nat.le_refl _) _ _), own_kept h.own (grown_setCell W _ _ _) (by omega)⟩
theorem RunRAt.note (h : RunRAt w B kb c l v L W) (hg : W.grownBy W' v.ownBlock) (ho : W'.ownsRow (w.heap.size + 2) 77 8 v' (L.length + 1) (askAll L ++ askL d)) : RunRAt w B kb c l v' (L ++ [d]) W' := by
  have lo : Below (w.heap.size + 2) W W' := ⟨hg.os, hg.tape, hg.output, hg.size, fun k hk => hg.block k (by have := h.res.lt; omega) (fun e => by have := (h.own.lt k e.symm).1; omega)⟩
  refine ⟨?_, ?_, refAt_kept h.ref hg ?_, grown_then h.gro (lo.mono (by omega)), ?_⟩
  · unfold BoxC Box; rw [lo.block _ (by omega)]; exact h.box
  · unfold BoxC Box; rw [lo.block _ (by omega)]; exact h.res
  · intro j e
    rcases h.own.2 with ⟨hv, _⟩ | ⟨g, cap, cur, hv, _, hgb, _⟩
    · rw [hv] at e; cases e
    · rw [hv] at e
      obtain rfl : g = j := by simpa [Value.ownBlock] using e
      exact ⟨_, _, _, hgb, by decide, by decide⟩
  · rw [askAll_snoc, List.length_append]; exact ho
theorem RunRAt.cell {g i : Nat} {u : Value} {cs : Array Value} (h : RunRAt w B kb c l v L W) (hg : W.heap[g]? = some (.cells cs 77 (0, 0))) (h2 : w.heap.size + 2 ≤ g) (hv : ∀ j, v.ownBlock = some j → j < g) : RunRAt w B kb c l v L (W.setCell ⟨g, i, none⟩ u) :=
  ⟨h.box.other _ _ (by simp; omega), h.res.other _ _ (by simp; omega), refAt_kept h.ref (grown_setCell W g i u) (fun j e => by cases e; exact ⟨_, _, _, hg, by decide, by decide⟩), grown_then h.gro (below_cell1 (Below.refl _ _) (by omega) _ _), h.own.kept (grown_setCell W g i u) (own_apartR hv (Nat.le_refl _))⟩
end
theorem noteK (W : World) : Below W.heap.size W ((W.alloc (.cells zero8.toArray 77)).setRow W.heap.size zero8.toArray) ∧ ((W.alloc (.cells zero8.toArray 77)).setRow W.heap.size zero8.toArray).heap[W.heap.size]? = some (.cells zero8.toArray 77 (0, 0)) :=
  ⟨below_row ((Below.refl _ _).alloc (Nat.le_refl _) _) (Nat.le_refl _) _, setRow_heap _ _ _ _ _ _ (heap_alloc_new W _)⟩
theorem infoP (d : Mach) (j : Nat) : (Tryz.prog.info? 77).map (·.size) = some (partK d j).size := by rw [partK_size]; exact infoK
theorem zero8_one : zero8.toArray.all (·.oneCell') = true := by kernel_rfl
theorem infoZ8 : (Tryz.prog.info? 77).map (·.size) = some zero8.toArray.size := infoK

set_option maxRecDepth 100000 in
set_option maxHeartbeats 16000000 in
theorem rrun_any {B kb : Nat} {l : Cs} (c : Mach) (av : Value) (zs : List (BitVec 32)) (fuel : Int) (hfu : fuel ≤ 65536) (w : World) (h : RefAt w B kb l) (hB : B ≤ w.heap.size) (ha : AnsAt w av zs) :
    Calls Tryz.prog 12 #[.agg (cells c), .pointer (some ⟨kb, 0, none⟩), av, .int .i64 fuel] w fun e w' => ToldRR w B kb (runM fuel.toNat (zr c) l zs) e w' := by
  have hz := zeroC
  have hzK := zeroK
  have hc0 : ((cells c)[0]?) = some (.int .u32 ((c.x 0).toNat : Int)) := cells_x c 0 (by omega)
  have hcs := cells_size c
  have hcz := cells_zr c
  have hkb := h.lt
  obtain ⟨i0, hi, hz0, hz1, hz2⟩ := info_parts infoK2
  have R0 : RunRAt w B kb (zr c) l (.slice (some ⟨w.heap.size + 2, 0, none⟩) 0 0) [] (((w.alloc (.cells (cells (zr c)) 25)).alloc (.cells (cells nought) 25)).alloc (.cells #[] 77)) := by
    obtain ⟨b1, b2, lo⟩ := two_boxes w (zr c)
    have n3 : Below (w.heap.size + 2) ((w.alloc (.cells (cells (zr c)) 25)).alloc (.cells (cells nought) 25)) (((w.alloc (.cells (cells (zr c)) 25)).alloc (.cells (cells nought) 25)).alloc (.cells #[] 77)) := (Below.refl _ _).alloc (by simp) _
    have e3 := heap_alloc_new ((w.alloc (.cells (cells (zr c)) 25)).alloc (.cells (cells nought) 25)) (.cells #[] 77)
    simp only [World.size_alloc] at e3
    have lo3 := lo.trans (n3.mono (by omega))
    exact ⟨b1.alloc _, b2.alloc _, h.below lo3, grown_of_below lo3, ⟨rfl, .inr ⟨w.heap.size + 2, 0, #[], rfl, Nat.le_refl _, e3, Nat.le_refl _, Nat.zero_le _, rfl, rfl⟩⟩⟩
  go_enter Tryz.func12, Tryz.ntmps12
  go_wp2_with fail
  clear hc0 hcs hcz
  go_loopw [12, 13] (fun v i W => ∃ (k : Nat) (d : Mach) (m : Cs) (L : List Mach), i = .int .i64 k ∧ (k : Int) ≤ max fuel 0 ∧ RunRAt w B kb d m v L W ∧ L.length ≤ k ∧ L.length ≤ zs.length ∧ Hid (runM fuel.toNat (zr c) l zs = pre L k (runM (fuel.toNat - k) d m (zs.drop L.length)))) (fun _ i _ => (fuel - intOf i).toNat)
  case atStart => exact ⟨0, zr c, l, [], rfl, by omega, R0, Nat.le_refl _, Nat.zero_le _, by show _ = _; rw [pre_nil]; rfl⟩
  case round =>
    obtain ⟨k, d, m, L, rfl, hk, hR, hL, hLz, HE⟩ := hrel
    clear R0
    by_cases hlt : (k : Int) < fuel
    · obtain ⟨f, hf⟩ : ∃ f, fuel.toNat - k = f + 1 := ⟨fuel.toNat - k - 1, by omega⟩
      have hf2 : fuel.toNat - (k + 1) = f := by omega
      rw [hf] at HE
      have HF := hideC hf2
      clear hf hf2
      go_wp2_with (first | (refine wpList_load_row rfl 25 _ rfl (w.heap.size) rfl _ _ _ _ hR.box Tryz.underlying25 rfl (infoCs _) ?_))
      refine (rstep_any d _ hR.ref (Nat.le_trans hB hR.gro.size)).mono ?_
      rintro e w1 ⟨rfl, hm1, hg1⟩
      have A1 := hR.step hkb hm1 hg1
      have S1 := run_call f d m
      have S2 := run_stop f d m
      have S3 := run_on f d m
      have S4 := run_end f d m
      have HS := hideC (And.intro S1 (And.intro S2 (And.intro S3 S4)))
      clear S1 S2 S3 S4 hm1 hg1 hR
      generalize (stepM d m).c = d1 at HS ⊢
      generalize (stepM d m).l = m1 at A1 HS ⊢
      generalize (stepM d m).e = e1 at HS ⊢
      obtain ⟨n2, b2⟩ := box_new2Q w1 d1
      have A2 := A1.below n2
      clear A1
      go_upto_region 5 with (first | (refine wpList_store_row rfl 25 _ _ rfl w1.heap.size _ rfl rfl _ _ (told_box w1) (infoCs _) (cells_same _ _) (cells_one _) ?_))
      generalize (w1.alloc (.cells (cells nought) 25)).setRow w1.heap.size (cells d1) = w2 at n2 b2 A2 ⊢
      clear n2
      have A3 := A2.set d1
      go_upto_region 6 with (first | (refine wpList_load_row rfl 25 _ rfl (w1.heap.size) rfl _ _ _ _ b2 Tryz.underlying25 rfl (infoCs _) ?_) | (refine wpList_store_row rfl 25 _ _ rfl (w.heap.size) _ rfl rfl _ _ A2.box (infoCs _) (cells_same _ _) (cells_one _) ?_))
      generalize w2.setRow w.heap.size (cells d1) = w3 at A3 ⊢
      clear A2 b2
      by_cases h1 : e1 = 1
      · subst h1
        have A4i := noteK w3
        obtain ⟨n4, k4⟩ := A4i
        have hown3 : ∀ j, u12.ownBlock = some j → j < w3.heap.size := fun j e => (A3.own.lt j e).2
        have hsz3 := A3.res.lt
        have A4 := A3.below n4
        go_upto_region 9 with (first
          | (refine wpList_buildTo rfl 77 _ rfl (some 35) rfl zero8.toArray (by kernel_rfl) ?_)
          | (refine wpList_store_row rfl 77 _ _ rfl w3.heap.size _ rfl rfl _ _ (heap_alloc_new w3 _) infoZ8 rfl zero8_one ?_))
        generalize (w3.alloc (.cells zero8.toArray 77)).setRow w3.heap.size zero8.toArray = w4 at n4 k4 A4 ⊢
        clear n4 A3
        generalize hgk : w3.heap.size = gk at k4 hown3 hsz3 ⊢
        go_wp2_with fail
        go_loopw [17] (fun u W => ∃ j : Nat, j ≤ 8 ∧ u = .int .i64 j ∧ W.heap[gk]? = some (.cells (partK d1 j) 77 (0, 0)) ∧ RunRAt w B kb d1 m1 u12 L W) (fun u _ => 8 - (intOf u).toNat)
        case atStart => exact ⟨0, Nat.zero_le _, rfl, k4, A4⟩
        case round =>
          clear A4 k4
          obtain ⟨j, hj, rfl, kj, A⟩ := hrel
          by_cases hj8 : j < 8
          · have hjI : (j : Int) < 8 := by omega
            have qx := A.box.reg (10 + j) (by omega)
            have qk : wr.cell? ⟨gk, j, none⟩ = some (if j < j then Value.int .u32 ((d1.x (10 + j)).toNat : Int) else .int .u32 0) := by rw [cell_of_row _ _ _ _ _ _ kj]; exact partK_at d1 j j hj8
            rw [if_neg (Nat.lt_irrefl j)] at qk
            have fk := frozen_of_row wr gk j _ _ kj
            have k5 : (wr.setCell ⟨gk, j, none⟩ (.int .u32 ((d1.x (10 + j)).toNat : Int))).heap[gk]? = some (.cells (partK d1 (j + 1)) 77 (0, 0)) := by
              rw [heap_setCell_same wr gk j _ _ _ kj, partK_set d1 j hj8]
            have A5 := A.cell (i := j) (u := .int .u32 ((d1.x (10 + j)).toNat : Int)) kj (by omega) hown3
            clear A kj
            go_wp2_with fail
            exact ⟨⟨j + 1, by omega, by go_num, k5, A5⟩, by simp [intOf]; omega⟩
          · obtain rfl : j = 8 := by omega
            rw [partK_8] at kj
            have nA : Below wr.heap.size wr (wr.alloc (.cells (askL d1).toArray 77)) := (Below.refl _ _).alloc (Nat.le_refl _) _
            have A6 := A.below nA
            have hszr := A.res.lt
            go_upto_region 14 with (first
              | (refine wpList_load_row rfl 77 _ rfl gk rfl _ _ _ _ kj Tryz.underlying77 rfl (infoKs _) ?_)
              | (refine wpList_ask d1 rfl _ rfl rfl ?_)
              | (at_builtin; refine wpList_append_own _ rfl _ _ 43 rfl (w.heap.size + 2) 77 i0 (.agg zero8.toArray) 8 32 Tryz.underlying43 hi hz0 hz1 hz2 rfl (by decide) _ _ _ rfl A6.own ⟨wr.heap.size, 0, none⟩ 1 1 (askL d1) rfl (by rw [askL_len]) (ask_new wr d1) (askL_one d1) (by unfold maxLen; omega) (by omega) (by simp; omega) ?_; intro v' w7 hown' hgrow hnil)
              | go_in)
            have A7 := A6.note (d := d1) hgrow hown'
            obtain ⟨av7, cp7, ev⟩ := own_form hown'
            subst ev
            clear A A6 kj hown' hgrow hnil nA
            obtain ⟨ad, cap, ea, hcap, hcel⟩ := ha
            subst ea
            by_cases hgt : zs.length < L.length + 1
            · have tG : decide (zs.length < L.length + 1) = true := decide_eq_true hgt
              have hdr : zs.drop L.length = [] := List.drop_eq_nil_of_le (by omega)
              rw [hdr] at HE
              go_upto_region 15 with fail
              go_wp2_with (first | (refine wpList_load_row rfl 25 _ rfl (w.heap.size) rfl _ _ _ _ A7.box Tryz.underlying25 rfl (infoCs _) ?_) | (refine wpList_store_row rfl 25 _ _ rfl (w.heap.size + 1) _ rfl rfl _ _ A7.res (infoCs _) (cells_same _ _) (cells_one _) ?_))
              have hr := (show runM fuel.toNat (zr c) l zs = ⟨d1, m1, L ++ [d1], 1, ((k : Int) + 1).toNat⟩ by rw [HE.out, HS.out.2.1 (by first | rfl | trivial)]; unfold pre; simp)
              exact bodyPost_ret (results_row_tmp3 (p := 8) (u := 9) (v := 10) (x := 11) (by kernel_rfl) _ _ (w.heap.size + 1) _ _ _ _ rfl (A7.res.setRow _) Tryz.underlying25 rfl (infoCs _)) rfl (A7.told hr (by omega))
            · have hlz : L.length < zs.length := by omega
              have tG : decide (zs.length < L.length + 1) = false := decide_eq_false hgt
              have tL : (L.length : Int) < (zs.length : Int) := by omega
              have hdr : zs.drop L.length = zs[L.length] :: zs.drop (L.length + 1) := List.drop_eq_getElem_cons hlz
              rw [hdr] at HE
              obtain ⟨bq, oq, had, q0⟩ := hcel L.length hlz
              subst had
              have hqb : bq < w.heap.size := block_lt_of_cell q0
              have q7 : w7.cell? ⟨bq, oq + L.length, none⟩ = some (.int .u32 ((zs[L.length]).toNat : Int)) := by
                rw [← q0]; unfold World.cell?
                rw [A7.gro.block bq hqb (by simpa using ans_not_ref q0 h)]
              generalize zs[L.length] = a0 at HE q7
              have q8 := A7.box.reg 10 (by omega)
              have f8 := A7.box.free 10
              have A8 := A7.reg a0
              go_wp2_with fail
              exact ⟨⟨k + 1, sx d1 10 a0, m1, L ++ [d1], by go_num, by omega, A8, by simp; omega, by simp; omega, by show _ = _; rw [HE.out, HF.out, HS.out.1 _ _ (by first | rfl | trivial), pre_pre]; simp⟩, by simp [intOf]; omega⟩
      · have h1b : (e1 == 1) = false := by simpa using h1
        by_cases h0 : e1 = 0
        · subst h0
          go_wp2_with fail
          exact ⟨⟨k + 1, d1, m1, L, by go_num, by omega, A3, by omega, hLz, by show _ = _; rw [HE.out, HF.out, HS.out.2.2.1 _ (by first | rfl | trivial), pre_pre]; simp⟩, by simp [intOf]; omega⟩
        · have h0b : (e1 != 0) = true := by simpa using h0
          go_upto_region 18 with fail
          go_wp2_with (first | (refine wpList_load_row rfl 25 _ rfl (w.heap.size) rfl _ _ _ _ A3.box Tryz.underlying25 rfl (infoCs _) ?_) | (refine wpList_store_row rfl 25 _ _ rfl (w.heap.size + 1) _ rfl rfl _ _ A3.res (infoCs _) (cells_same _ _) (cells_one _) ?_))
          have hr := (show runM fuel.toNat (zr c) l zs = ⟨d1, m1, L, e1, ((k : Int) + 1).toNat⟩ by rw [HE.out, HS.out.2.2.2 _ h1 h0]; unfold pre; simp)
          exact bodyPost_ret (results_row_tmp3 (p := 8) (u := 9) (v := 10) (x := 11) (by kernel_rfl) _ _ (w.heap.size + 1) _ _ _ _ rfl (A3.res.setRow _) Tryz.underlying25 rfl (infoCs _)) rfl (A3.told hr (by omega))
    · have hk0 : fuel.toNat - k = 0 := by omega
      rw [hk0] at HE
      go_wp2_with (first | (refine wpList_load_row rfl 25 _ rfl (w.heap.size) rfl _ _ _ _ hR.box Tryz.underlying25 rfl (infoCs _) ?_) | (refine wpList_store_row rfl 25 _ _ rfl (w.heap.size + 1) _ rfl rfl _ _ hR.res (infoCs _) (cells_same _ _) (cells_one _) ?_))
      have hr := (show runM fuel.toNat (zr c) l zs = ⟨d, m, L, 6, ((k : Int)).toNat⟩ by rw [HE.out]; unfold pre runM; simp)
      exact bodyPost_ret (results_row_tmp3 (p := 8) (u := 9) (v := 10) (x := 11) (by kernel_rfl) _ _ (w.heap.size + 1) _ _ _ _ rfl (hR.res.setRow _) Tryz.underlying25 rfl (infoCs _)) rfl (hR.told hr (by omega))
end Go.Proofs.YtilphdfobflbiaaGreat
