/-
  Contract of blocks.After: where a program may go on, rising, each once.
  The keys of the map of places, as the library's iterator gives them, collected, and sorted.
  Contract of the function that marks an address as reached (a closure over the map of places and the list of what waits).
-/
import Derived.RangeFuncRecord
import Derived.Handy
import Derived.Sort.OwnSorted
import Derived.Sort.MapsRangeIn
import Derived.RangeFuncBox
import Derived.RangeFuncLeaves
import Derived.Shelf.Abstract
import Derived.OwnWalkIn
import Derived.TacticsInMore
import Derived.LoopNIn
import Derived.LoopIn
import Derived.Maps.AppendAt
import Derived.Test.YtcffpmicencfpabGreatZC2
import Derived.Test.YtcffpmicencfpabGreatZC3
namespace Go.Proofs.YtcffpmicencfpabGreat
open Go.RowKit Go.Lib Go.Sort Ip Bl
set_option linter.unusedSimpArgs false
set_option linter.unusedVariables false

/-- While After is at work: its instruction's box, and its list. -/
structure AfAt (w : World) (x : Ins) (v : Value) (l : List Int) (W : World) : Prop where
  box : W.heap[w.heap.size]? = some (.cells (insC x) 38 (0, 0))
  own : W.ownsRow (w.heap.size + 1) 22 1 v l.length (l.map U)
  low : Below w.heap.size w W
  big : w.heap.size + 1 ≤ W.heap.size
theorem AfAt.below {w W W' : World} {x : Ins} {v : Value} {l : List Int} (h : AfAt w x v l W) (hb : Below W.heap.size W W') : AfAt w x v l W' := by
  refine ⟨keptN hb h.box, h.own.kept (row := none) ⟨hb.os, hb.tape, hb.output, hb.size, fun k hk _ => hb.block k hk⟩ (by cases v.ownBlock <;> simp), h.low.trans (hb.mono h.low.size), Nat.le_trans h.big hb.size⟩
theorem AfAt.new {w W : World} {x : Ins} {v : Value} (hown : W.ownsRow (w.heap.size + 1) 22 1 v 0 []) (hg : (w.alloc (.cells (insC x) 38)).grownBy W none) : AfAt w x v [] W := by
  have hs := hg.size
  have hb : Below w.heap.size w W := ((Below.refl _ w).alloc (Nat.le_refl _) _).grown hg (by simp) (fun k e => by cases e)
  rw [World.size_alloc] at hs
  exact ⟨(hg.block _ (by simp) (by simp)).trans (heap_alloc_new w _), hown, hb, hs⟩
theorem cell_one8 (w : World) (x : Value) (t : TypeId) : ∀ j u, [x][j]? = some u → (w.alloc (.cells #[x] t)).cell? ((⟨w.heap.size, 0, none⟩ : Addr).add j) = some u := by
  intro j u hj
  match j, hj with
  | 0, hj => simp at hj; subst hj; simp [Addr.add]
theorem infoU : (Tryz.prog.info? 22).map (fun i => (i.zero, i.size, i.bytes)) = some (some (.int .u32 0), 1, 4) := by kernel_rfl
theorem toA_u (a : Nat) (imm : Int) : ((a : Int) + imm % 4294967296) % 4294967296 = (toA a imm : Int) := by unfold toA; omega
theorem nxA_u (a : Nat) : ((a : Int) + 4) % 4294967296 = (nxA a : Int) := by unfold nxA; omega
def aftL (x : Ins) (a : Nat) : List Int := (if jumpsI x = true then [(toA a x.imm : Int)] else []) ++ (if goesOnI x = true then [(nxA a : Int)] else [])
theorem srt2 (a b : Int) : srtI [a, b] = if a ≤ b then [a, b] else [b, a] := by
  unfold srtI
  by_cases h : a ≤ b
  · rw [if_pos h]
    exact List.mergeSort_of_pairwise (by simp [h])
  · rw [if_neg h]
    have hp : ([a, b].mergeSort fun x y => decide (x ≤ y)).Perm [b, a] := (List.mergeSort_perm _ _).trans (List.Perm.swap b a [])
    have tr : ∀ a b c : Int, decide (a ≤ b) = true → decide (b ≤ c) = true → decide (a ≤ c) = true := fun a b c h1 h2 => by simp only [decide_eq_true_eq] at *; omega
    have to : ∀ a b : Int, (decide (a ≤ b) || decide (b ≤ a)) = true := fun a b => by simp only [Bool.or_eq_true, decide_eq_true_eq]; omega
    refine List.Perm.eq_of_pairwise (le := fun a b => decide (a ≤ b) = true) (fun a b _ _ h1 h2 => ?_) (List.pairwise_mergeSort tr to _) (by simp; omega) hp
    simp only [decide_eq_true_eq] at h1 h2; omega
theorem aftL_eq (x : Ins) (a : Nat) : cmpt (srtI (aftL x a)) = (aftI x a).map fun n : Nat => (n : Int) := by
  have hj : jumpsI x = (right x.op x.rd x.rs1 x.rs2 x.imm && goesB x.op) := rfl
  have hg : goesOnI x = (right x.op x.rd x.rs1 x.rs2 x.imm && (!decide (x.op = 46) && staysB x.op x.rd)) := rfl
  unfold aftL aftI aft
  rw [hj, hg]
  cases hr : right x.op x.rd x.rs1 x.rs2 x.imm with
  | false => simp [srtI, cmpt]
  | true =>
    by_cases h46 : x.op = 46
    · have : goesB x.op = false := by rw [h46]; decide
      rw [this]; simp [h46, srtI, cmpt]
    · cases h1 : goesB x.op <;> cases h2 : staysB x.op x.rd <;> simp [h46, srtI, cmpt]
      · rw [← srtI, srt2]
        by_cases he : toA a x.imm = nxA a
        · simp [he, cmpt]
        · simp only [he, not_false_eq_true, if_true]
          by_cases hl : (toA a x.imm : Int) ≤ nxA a
          · rw [if_pos hl]
            have : toA a x.imm ≤ nxA a := by omega
            simp [cmpt, he, Nat.min_eq_left this, Nat.max_eq_right this]; omega
          · rw [if_neg hl]
            have : nxA a ≤ toA a x.imm := by omega
            simp [cmpt, Ne.symm he, Nat.min_eq_right this, Nat.max_eq_left this]; omega
theorem map_wordV (l : List Nat) : (l.map fun n : Nat => (n : Int)).map U = l.map wordV := by
  rw [List.map_map]; rfl
theorem aftL_len (x : Ins) (a : Nat) : (aftL x a).length ≤ 2 := by unfold aftL; split <;> split <;> simp
theorem AfAt.app {w W W' : World} {x : Ins} {v v' : Value} {l : List Int} {o : Obj} {z : Int} (h : AfAt w x v l W) (hown : W'.ownsRow (w.heap.size + 1) 22 1 v' (l.length + 1) (l.map U ++ [.int .u32 z])) (hg : (W.alloc o).grownBy W' v.ownBlock) : AfAt w x v' (l ++ [z]) W' := by
  have hs := h.big
  have hb : Below (w.heap.size + 1) W W' := ((Below.refl _ W).alloc hs o).grown hg (by simp; omega) (fun k e => (h.own.lt k e).1)
  refine ⟨?_, by simpa using hown, h.low.trans (hb.mono (by omega)), Nat.le_trans hs hb.size⟩
  exact keptE hb (by omega) h.box
set_option maxHeartbeats 4000000 in
set_option maxRecDepth 100000 in
theorem after_core (x : Ins) (a : Nat) (j g : Bool) (hj : jumpsI x = j) (hg : goesOnI x = g) (w : World) :
    Calls Tryz.prog 49 #[insV x, .int .u32 (a : Int)] w fun e w' => ∃ v, e = .returned v ∧ w'.ownsRow (w.heap.size + 1) 22 1 v (cmpt (srtI (aftL x a))).length ((cmpt (srtI (aftL x a))).map U) ∧ Below w.heap.size w w' := by
  obtain ⟨i0, hi, hz0, hz1, hz2⟩ := info_parts infoU
  have hL2 := hideE (aftL_len x a)
  have hS2 := hideE (show (srtI (aftL x a)).length ≤ 2 by rw [srtI, List.length_mergeSort]; exact hL2.out)
  obtain ⟨op, rd, rs1, rs2, imm⟩ := x
  have HJ := hideE (fun W => hj ▸ jumps_any ⟨op, rd, rs1, rs2, imm⟩ W)
  have HG := hideE (fun W => hg ▸ goesOn_any ⟨op, rd, rs1, rs2, imm⟩ W)
  have hL : aftL ⟨op, rd, rs1, rs2, imm⟩ a = (if j = true then [(toA a imm : Int)] else []) ++ (if g = true then [(nxA a : Int)] else []) := by rw [← hj, ← hg]; rfl
  have e1 := toA_u a imm
  have e2 := nxA_u a
  have e3 : IntKind.u32.wrap ((a : Int) + IntKind.u32.wrap imm) = (toA a imm : Int) := e1
  have e4 : IntKind.u32.wrap ((a : Int) + 4) = (nxA a : Int) := e2
  clear hj hg
  obtain ⟨L, hLL⟩ : ∃ L, aftL ⟨op, rd, rs1, rs2, imm⟩ a = L := ⟨_, rfl⟩
  rw [hLL] at hL hL2 hS2 ⊢
  clear hLL
  simp only [insV] at HJ HG ⊢
  cases j <;> cases g <;> simp only [if_true, if_false, Bool.false_eq_true, List.nil_append, List.append_nil, List.singleton_append] at hL <;> subst hL
  · go_enter Tryz.func49, Tryz.ntmps49
    go_upto_region 2 with (at_make; refine wpList_make_own _ rfl _ _ 24 rfl (w.heap.size + 1) 22 i0 (.int .u32 0) 1 Tryz.underlying24 hi hz0 hz1 .i64 .i64 2 2 rfl rfl rfl (by rw [hz2]; omega) (by unfold maxLen; omega) (by simp) ?_; intro w0 hown0 hgrow0)
    refine gen_world (AfAt w ⟨op, rd, rs1, rs2, imm⟩ (.slice (some ⟨w.heap.size + 1, 0, none⟩) 0 2) []) (AfAt.new (x := ⟨op, rd, rs1, rs2, imm⟩) (by simpa using hown0) hgrow0) ?_
    intro wa h1
    go_upto_region 4 with (first
      | (refine wpList_load_row rfl 38 _ rfl w.heap.size rfl _ _ _ _ h1.box Tryz.underlying38 rfl (by kernel_rfl) ?_)
      | (go_at_call 71; refine (HJ.out _).mono ?_; rintro e wb ⟨rfl, hb1⟩; have hb := h1.below hb1; obtain ⟨c0, c1, c2, c3, c4⟩ := five hb.box))
    refine gen_world (AfAt w ⟨op, rd, rs1, rs2, imm⟩ (.slice (some ⟨w.heap.size + 1, 0, none⟩) 0 2) []) hb ?_
    intro wc h2
    clear hb hb1 h1 c0 c1 c2 c3 c4
    go_upto_region 6 with (first
      | (refine wpList_load_row rfl 38 _ rfl w.heap.size rfl _ _ _ _ h2.box Tryz.underlying38 rfl (by kernel_rfl) ?_)
      | (go_at_call 72; refine (HG.out _).mono ?_; rintro e wd ⟨rfl, hb3⟩; have hd := h2.below hb3; obtain ⟨d0, d1, d2, d3, d4⟩ := five hd.box))
    refine gen_world (AfAt w ⟨op, rd, rs1, rs2, imm⟩ (.slice (some ⟨w.heap.size + 1, 0, none⟩) 0 2) []) hd ?_
    intro we h3
    clear hd hb3 h2 d0 d1 d2 d3 d4
    have ho := h3.own
    have hl := h3.low
    have hbg := h3.big
    clear h3
    go_wp2_with (first
      | (go_at_call 66; refine (sort_row (w.heap.size + 1) [] (.slice (some ⟨w.heap.size + 1, 0, none⟩) 0 2) _ ho (by simp) hbg).mono ?_; rintro e wf ⟨rfl, hf, hbf⟩)
      | (go_at_call 73; refine (compact_row (w.heap.size + 1) (srtI []) hS2.out (.slice (some ⟨w.heap.size + 1, 0, none⟩) 0 2) _ (by rw [show (srtI []).length = [].length by simp [srtI]]; exact hf)).mono ?_; rintro e wg ⟨v5, rfl, hg5, hbg5⟩))
    go_ret
    exact ⟨v5, rfl, hg5, (hl.trans (hbf.mono (Nat.le_succ _))).trans (hbg5.mono (Nat.le_succ _))⟩
  · go_enter Tryz.func49, Tryz.ntmps49
    go_upto_region 2 with (at_make; refine wpList_make_own _ rfl _ _ 24 rfl (w.heap.size + 1) 22 i0 (.int .u32 0) 1 Tryz.underlying24 hi hz0 hz1 .i64 .i64 2 2 rfl rfl rfl (by rw [hz2]; omega) (by unfold maxLen; omega) (by simp) ?_; intro w0 hown0 hgrow0)
    refine gen_world (AfAt w ⟨op, rd, rs1, rs2, imm⟩ (.slice (some ⟨w.heap.size + 1, 0, none⟩) 0 2) []) (AfAt.new (x := ⟨op, rd, rs1, rs2, imm⟩) (by simpa using hown0) hgrow0) ?_
    intro wa h1
    go_upto_region 4 with (first
      | (refine wpList_load_row rfl 38 _ rfl w.heap.size rfl _ _ _ _ h1.box Tryz.underlying38 rfl (by kernel_rfl) ?_)
      | (go_at_call 71; refine (HJ.out _).mono ?_; rintro e wb ⟨rfl, hb1⟩; have hb := h1.below hb1; obtain ⟨c0, c1, c2, c3, c4⟩ := five hb.box))
    refine gen_world (AfAt w ⟨op, rd, rs1, rs2, imm⟩ (.slice (some ⟨w.heap.size + 1, 0, none⟩) 0 2) []) hb ?_
    intro wc h2
    clear hb hb1 h1 c0 c1 c2 c3 c4
    go_upto_region 6 with (first
      | (refine wpList_load_row rfl 38 _ rfl w.heap.size rfl _ _ _ _ h2.box Tryz.underlying38 rfl (by kernel_rfl) ?_)
      | (go_at_call 72; refine (HG.out _).mono ?_; rintro e wd ⟨rfl, hb3⟩; have hd := h2.below hb3; obtain ⟨d0, d1, d2, d3, d4⟩ := five hd.box)
      | (at_builtin; refine wpList_append_own _ rfl _ _ 24 rfl (w.heap.size + 1) 22 i0 (.int .u32 0) 1 4 Tryz.underlying24 hi hz0 hz1 hz2 rfl (by decide) _ _ _ rfl (hd.own.alloc _) ⟨_, 0, none⟩ 1 1 [.int .u32 (nxA a : Int)] rfl rfl (cell_one8 _ _ _) (by simp [Value.oneCell']) (by unfold maxLen; simp) (by simp) (by have := hd.big; simp; omega) ?_; intro v2 w4 hown2 hgrow2 _))
    refine gen_world (AfAt w ⟨op, rd, rs1, rs2, imm⟩ v2 [(nxA a : Int)]) (hd.app hown2 hgrow2) ?_
    intro we h3
    clear hown2 hgrow2 hd hb3 h2 d0 d1 d2 d3 d4
    have ho := h3.own
    have hl := h3.low
    have hbg := h3.big
    clear h3
    go_wp2_with (first
      | (go_at_call 66; refine (sort_row (w.heap.size + 1) [(nxA a : Int)] v2 _ ho (by simp) hbg).mono ?_; rintro e wf ⟨rfl, hf, hbf⟩)
      | (go_at_call 73; refine (compact_row (w.heap.size + 1) (srtI [(nxA a : Int)]) hS2.out v2 _ (by rw [show (srtI [(nxA a : Int)]).length = [(nxA a : Int)].length by simp [srtI]]; exact hf)).mono ?_; rintro e wg ⟨v5, rfl, hg5, hbg5⟩))
    go_ret
    exact ⟨v5, rfl, hg5, (hl.trans (hbf.mono (Nat.le_succ _))).trans (hbg5.mono (Nat.le_succ _))⟩
  · go_enter Tryz.func49, Tryz.ntmps49
    go_upto_region 2 with (at_make; refine wpList_make_own _ rfl _ _ 24 rfl (w.heap.size + 1) 22 i0 (.int .u32 0) 1 Tryz.underlying24 hi hz0 hz1 .i64 .i64 2 2 rfl rfl rfl (by rw [hz2]; omega) (by unfold maxLen; omega) (by simp) ?_; intro w0 hown0 hgrow0)
    refine gen_world (AfAt w ⟨op, rd, rs1, rs2, imm⟩ (.slice (some ⟨w.heap.size + 1, 0, none⟩) 0 2) []) (AfAt.new (x := ⟨op, rd, rs1, rs2, imm⟩) (by simpa using hown0) hgrow0) ?_
    intro wa h1
    go_upto_region 4 with (first
      | (refine wpList_load_row rfl 38 _ rfl w.heap.size rfl _ _ _ _ h1.box Tryz.underlying38 rfl (by kernel_rfl) ?_)
      | (go_at_call 71; refine (HJ.out _).mono ?_; rintro e wb ⟨rfl, hb1⟩; have hb := h1.below hb1; obtain ⟨c0, c1, c2, c3, c4⟩ := five hb.box)
      | (at_builtin; refine wpList_append_own _ rfl _ _ 24 rfl (w.heap.size + 1) 22 i0 (.int .u32 0) 1 4 Tryz.underlying24 hi hz0 hz1 hz2 rfl (by decide) _ _ _ rfl (hb.own.alloc _) ⟨_, 0, none⟩ 1 1 [.int .u32 (toA a imm : Int)] rfl rfl (cell_one8 _ _ _) (by simp [Value.oneCell']) (by unfold maxLen; simp) (by simp) (by have := hb.big; simp; omega) ?_; intro v' w3 hown' hgrow _))
    refine gen_world (AfAt w ⟨op, rd, rs1, rs2, imm⟩ v' [(toA a imm : Int)]) (hb.app hown' hgrow) ?_
    intro wc h2
    clear hown' hgrow hb hb1 h1 c0 c1 c2 c3 c4
    go_upto_region 6 with (first
      | (refine wpList_load_row rfl 38 _ rfl w.heap.size rfl _ _ _ _ h2.box Tryz.underlying38 rfl (by kernel_rfl) ?_)
      | (go_at_call 72; refine (HG.out _).mono ?_; rintro e wd ⟨rfl, hb3⟩; have hd := h2.below hb3; obtain ⟨d0, d1, d2, d3, d4⟩ := five hd.box))
    refine gen_world (AfAt w ⟨op, rd, rs1, rs2, imm⟩ v' [(toA a imm : Int)]) hd ?_
    intro we h3
    clear hd hb3 h2 d0 d1 d2 d3 d4
    have ho := h3.own
    have hl := h3.low
    have hbg := h3.big
    clear h3
    go_wp2_with (first
      | (go_at_call 66; refine (sort_row (w.heap.size + 1) [(toA a imm : Int)] v' _ ho (by simp) hbg).mono ?_; rintro e wf ⟨rfl, hf, hbf⟩)
      | (go_at_call 73; refine (compact_row (w.heap.size + 1) (srtI [(toA a imm : Int)]) hS2.out v' _ (by rw [show (srtI [(toA a imm : Int)]).length = [(toA a imm : Int)].length by simp [srtI]]; exact hf)).mono ?_; rintro e wg ⟨v5, rfl, hg5, hbg5⟩))
    go_ret
    exact ⟨v5, rfl, hg5, (hl.trans (hbf.mono (Nat.le_succ _))).trans (hbg5.mono (Nat.le_succ _))⟩
  · go_enter Tryz.func49, Tryz.ntmps49
    go_upto_region 2 with (at_make; refine wpList_make_own _ rfl _ _ 24 rfl (w.heap.size + 1) 22 i0 (.int .u32 0) 1 Tryz.underlying24 hi hz0 hz1 .i64 .i64 2 2 rfl rfl rfl (by rw [hz2]; omega) (by unfold maxLen; omega) (by simp) ?_; intro w0 hown0 hgrow0)
    refine gen_world (AfAt w ⟨op, rd, rs1, rs2, imm⟩ (.slice (some ⟨w.heap.size + 1, 0, none⟩) 0 2) []) (AfAt.new (x := ⟨op, rd, rs1, rs2, imm⟩) (by simpa using hown0) hgrow0) ?_
    intro wa h1
    go_upto_region 4 with (first
      | (refine wpList_load_row rfl 38 _ rfl w.heap.size rfl _ _ _ _ h1.box Tryz.underlying38 rfl (by kernel_rfl) ?_)
      | (go_at_call 71; refine (HJ.out _).mono ?_; rintro e wb ⟨rfl, hb1⟩; have hb := h1.below hb1; obtain ⟨c0, c1, c2, c3, c4⟩ := five hb.box)
      | (at_builtin; refine wpList_append_own _ rfl _ _ 24 rfl (w.heap.size + 1) 22 i0 (.int .u32 0) 1 4 Tryz.underlying24 hi hz0 hz1 hz2 rfl (by decide) _ _ _ rfl (hb.own.alloc _) ⟨_, 0, none⟩ 1 1 [.int .u32 (toA a imm : Int)] rfl rfl (cell_one8 _ _ _) (by simp [Value.oneCell']) (by unfold maxLen; simp) (by simp) (by have := hb.big; simp; omega) ?_; intro v' w3 hown' hgrow _))
    refine gen_world (AfAt w ⟨op, rd, rs1, rs2, imm⟩ v' [(toA a imm : Int)]) (hb.app hown' hgrow) ?_
    intro wc h2
    clear hown' hgrow hb hb1 h1 c0 c1 c2 c3 c4
    go_upto_region 6 with (first
      | (refine wpList_load_row rfl 38 _ rfl w.heap.size rfl _ _ _ _ h2.box Tryz.underlying38 rfl (by kernel_rfl) ?_)
      | (go_at_call 72; refine (HG.out _).mono ?_; rintro e wd ⟨rfl, hb3⟩; have hd := h2.below hb3; obtain ⟨d0, d1, d2, d3, d4⟩ := five hd.box)
      | (at_builtin; refine wpList_append_own _ rfl _ _ 24 rfl (w.heap.size + 1) 22 i0 (.int .u32 0) 1 4 Tryz.underlying24 hi hz0 hz1 hz2 rfl (by decide) _ _ _ rfl (hd.own.alloc _) ⟨_, 0, none⟩ 1 1 [.int .u32 (nxA a : Int)] rfl rfl (cell_one8 _ _ _) (by simp [Value.oneCell']) (by unfold maxLen; simp) (by simp) (by have := hd.big; simp; omega) ?_; intro v2 w4 hown2 hgrow2 _))
    refine gen_world (AfAt w ⟨op, rd, rs1, rs2, imm⟩ v2 [(toA a imm : Int), (nxA a : Int)]) (hd.app hown2 hgrow2) ?_
    intro we h3
    clear hown2 hgrow2 hd hb3 h2 d0 d1 d2 d3 d4
    have ho := h3.own
    have hl := h3.low
    have hbg := h3.big
    clear h3
    go_wp2_with (first
      | (go_at_call 66; refine (sort_row (w.heap.size + 1) [(toA a imm : Int), (nxA a : Int)] v2 _ ho (by simp) hbg).mono ?_; rintro e wf ⟨rfl, hf, hbf⟩)
      | (go_at_call 73; refine (compact_row (w.heap.size + 1) (srtI [(toA a imm : Int), (nxA a : Int)]) hS2.out v2 _ (by rw [show (srtI [(toA a imm : Int), (nxA a : Int)]).length = [(toA a imm : Int), (nxA a : Int)].length by simp [srtI]]; exact hf)).mono ?_; rintro e wg ⟨v5, rfl, hg5, hbg5⟩))
    go_ret
    exact ⟨v5, rfl, hg5, (hl.trans (hbf.mono (Nat.le_succ _))).trans (hbg5.mono (Nat.le_succ _))⟩
theorem after_any (x : Ins) (a : Nat) (w : World) :
    Calls Tryz.prog 49 #[insV x, .int .u32 (a : Int)] w fun e w' => ∃ v, e = .returned v ∧ w'.ownsRow (w.heap.size + 1) 22 1 v (aftI x a).length ((aftI x a).map wordV) ∧ Below w.heap.size w w' := by
  refine (after_core x a _ _ rfl rfl w).mono ?_
  rintro e w' ⟨v, rfl, h, hb⟩
  rw [aftL_eq, map_wordV, List.length_map] at h
  exact ⟨v, rfl, h, hb⟩
end Go.Proofs.YtcffpmicencfpabGreat
namespace Go.Proofs.YtcffpmicencfpabGreat
open Go.RowKit Go.Maps Go.Sort Go.Shelf Pm

attribute [local go_sem] Oper.semAt_some

namespace Pm
/-- What has come of a memory's addresses, and which are still to come. -/
def Got (l : Plcs) (left : Lit → Bool) (ss : List Int) : Prop := ss.Nodup ∧ ∀ x, x ∈ ss ↔ ((∃ p ∈ l, (p.1 : Int) = x) ∧ left (.int .u32 x) = false)
theorem has_mem (l : Plcs) (x : Int) : Maps.has (D l) (.int .u32 x) = true ↔ ∃ p ∈ l, (p.1 : Int) = x := by
  rw [has_D, List.any_eq_true]; simp
theorem got_start (l : Plcs) : Got l (Maps.has (D l)) [] := by
  refine ⟨List.nodup_nil, fun x => ⟨fun h => by simp at h, fun ⟨h1, h2⟩ => ?_⟩⟩
  have := (has_mem l x).2 h1
  rw [h2] at this; cases this
theorem got_step {l : Plcs} {left : Lit → Bool} {ss : List Int} (h : Got l left ss) {x : Int} {y : DataW Unit} (hl : left (.int .u32 x) = true) (hat : ∀ zd, (D l).atKey (.int .u32 x) zd = y) :
    Got l (fun z => left z && !z.sameKey (.int .u32 x)) (ss ++ [x]) := by
  have hh := (has_mem l x).1 (has_true_of_atKey hat)
  have hnew : x ∉ ss := fun hx => by have := ((h.2 x).1 hx).2; rw [hl] at this; cases this
  refine ⟨List.nodup_append.2 ⟨h.1, by simp, fun a ha b hb => by simp at hb; subst hb; exact fun e => hnew (e ▸ ha)⟩, fun z => ?_⟩
  rw [List.mem_append, h.2 z]
  simp only [same_u32]
  by_cases e : z = x
  · subst e
    simp only [List.mem_singleton, or_true, true_iff, beq_self_eq_true, Bool.not_true, Bool.and_false, and_true]
    exact hh
  · have e' : (z == x) = false := by simp [e]
    simp only [List.mem_singleton, e, or_false, e', Bool.not_false, Bool.and_true]
theorem keys_nodup {l : Plcs} (h : Rise l) : (keysI l).Nodup := by
  refine List.pairwise_map.2 (h.up.imp fun {p q} hlt e => ?_)
  omega
theorem got_end {l : Plcs} {left : Lit → Bool} {ss : List Int} (h : Got l left ss) (hr : Rise l) (hl : ∀ k, left k = false) : ss.Perm (keysI l) := by
  refine (List.perm_ext_iff_of_nodup h.1 (keys_nodup hr)).2 fun x => ?_
  rw [h.2 x, hl, keysI, List.mem_map]; simp
theorem sorted_keys {l : Plcs} {ss : List Int} (hp : ss.Perm (keysI l)) (hr : Rise l) : ss.mergeSort (fun x y => decide (x ≤ y)) = keysI l := by
  have tr : ∀ a b c : Int, decide (a ≤ b) = true → decide (b ≤ c) = true → decide (a ≤ c) = true := fun a b c h1 h2 => by simp only [decide_eq_true_eq] at *; omega
  have to : ∀ a b : Int, (decide (a ≤ b) || decide (b ≤ a)) = true := fun a b => by simp only [Bool.or_eq_true, decide_eq_true_eq]; omega
  refine List.Perm.eq_of_pairwise (le := fun a b => decide (a ≤ b) = true) (fun a b _ _ h1 h2 => ?_) (List.pairwise_mergeSort tr to ss) ?_ ((List.mergeSort_perm ss _).trans hp)
  · simp only [decide_eq_true_eq] at h1 h2; omega
  · refine List.pairwise_map.2 (hr.up.imp fun {p q} hlt => ?_)
    simp only [decide_eq_true_eq]; omega
end Pm

theorem lawU : Keyed Tryz.prog 22 := int_keyed Tryz.underlying22
theorem keyOf_u {key : Value} {kl : Lit} (h : keyOf Tryz.prog 22 key = some kl) : ∃ x : Int, key = U x ∧ kl = .int .u32 x := by
  obtain ⟨x, h1, h2, _⟩ := Maps.keyOf_int_inv Tryz.underlying22 h
  exact ⟨x, h1, h2⟩

set_option maxRecDepth 100000 in
set_option maxHeartbeats 1000000 in
theorem keys_run (n : Nat) (hn : 1 ≤ n) (g Bm b : Nat) (l : Plcs) (hr : Rise l) (J Jx : List Int → World → Prop)
    (hY : ∀ pre x W, J pre W → pre.length < l.length → YieldAt Fence.wide (n - 1) Tryz.prog g #[U x] W fun e W' => (e = .returned (.bool true) ∧ J (pre ++ [x]) W' ∧ KeepsWalks W W') ∨ (e = .returned (.bool false) ∧ Jx (pre ++ [x]) W'))
    (W : World) (hJ : AbidesFrom W.heap.size J) (hm : W.cell? ⟨Bm, 0, none⟩ = some (.map (some b))) (hown : W.ownsMap Tryz.prog 22 plcElem b l.length (D l)) (h0 : J [] W) :
    CallsIn Fence.wide n Tryz.prog 67 #[.func (.yield g) #[] #[], .pointer (some ⟨Bm, 0, none⟩)] W fun e W' => (∃ v, e = .returned v) ∧
      ((∃ ss : List Int, ss.Perm (keysI l) ∧ J ss W') ∨ (∃ pre : List Int, True ∧ Jx pre W')) := by
  refine callsIn_of_wp Tryz.func67 rfl trivial ?_ rfl
  simp only [Tryz.ntmps67, List.size_toArray, List.length_cons, List.length_nil, Nat.reduceAdd, Nat.reduceSub, Array.replicate_succ, Array.replicate_zero, List.push_toArray, List.append_toArray, List.nil_append, List.cons_append]
  gi_wp2_with (first
    | (gi_at_range; refine wpListIn_range_own _ rfl _ 85 rfl 22 92 lawU Tryz.underlying85 _ b l.length _ rfl hown ?_; intro w0 hrg0 hg0 hs0)
    | gi_in)
  go_frame
  gi_loopw [3] (fun _ wr => ∃ (left : Lit → Bool) (cnt : Nat) (ss : List Int), wr.ranges Tryz.prog 22 plcElem b W.heap.size l.length (D l) left cnt ∧ ss.length + cnt ≤ l.length ∧ Got l left ss ∧ J ss wr) (fun _ wr => wr.rangeLeft b W.heap.size)
  case atStart => exact ⟨_, _, [], hrg0, by simp [size_D], got_start l, hJ [] W w0 none h0 hg0 (fun r e => by cases e)⟩
  case round =>
    obtain ⟨left, cnt, ss, hrg, hcs, hC, hJs⟩ := hrel
    gi_wp2_with (first
      | (gi_at_next; refine wpListIn_next_ranges _ rfl _ rfl 22 lawU _ U id (fun key kl hk => by obtain ⟨x, hx, _⟩ := keyOf_u hk; exact ⟨x, hx⟩) (fun v _ _ => ⟨v, rfl⟩) b W.heap.size l.length _ _ _ rfl hrg ?_ ?_)
      | gi_in)
    · intro hc0 hl0
      gi_wp2
      go_end0
      exact ⟨⟨_, rfl⟩, .inl ⟨ss, got_end hC hr hl0, hJs⟩⟩
    · intro x c kl yd yp w2 cnt2 hkey hlk hv hat hrg2 hlt hg2 hs2 hen
      obtain ⟨x', ex, rfl⟩ := keyOf_u hkey
      obtain rfl : x = x' := by simpa [U] using ex
      have hJ2 : J ss w2 := hJ ss wr w2 (some W.heap.size) hJs hg2 (fun r e => by cases e; exact ⟨Nat.le_refl _, hrg.iter_walk⟩)
      obtain ⟨fn, tmps, assign, body, hy, hR⟩ := hY ss x w2 hJ2 (by omega)
      have hC2 := hide (got_step hC hlk hat)
      clear hs2
      gi_wp2
      refine hR.mono ?_
      rintro e W3 (⟨rfl, hJ3, hk3⟩ | ⟨rfl, hJx3⟩)
      · gi_wp2
        have hrg3 := hrg2.of_walks hk3
        go_roundw
        case rel => exact ⟨_, cnt2, ss ++ [x], hrg3, by simp; omega, hC2.out, hJ3⟩
        case measure => rw [hrg3.left_eq, hrg.left_eq]; exact hlt
      · gi_wp2
        refine bodyPost_ret (results_none rfl _ _ _) rfl ?_
        exact ⟨⟨_, rfl⟩, .inr ⟨ss ++ [x], trivial, hJx3⟩⟩

theorem keys_stop (n : Nat) (hn : 1 ≤ n) (Bm b : Nat) (l : Plcs) (hr : Rise l) (w : World) (hBm : Bm < w.heap.size) (hm : w.cell? ⟨Bm, 0, none⟩ = some (.map (some b))) (hown : w.ownsMap Tryz.prog 22 plcElem b l.length (D l)) :
    SeqStopsK Fence.wide n Tryz.prog 67 #[.pointer (some ⟨Bm, 0, none⟩)] (fun x : Int => #[U x]) KeepsWalks (fun ss => ss.Perm (keysI l)) (fun _ => True) l.length w := fun g J Jx W hW hJ _ hY h0 => by
  have hown' : W.ownsMap Tryz.prog 22 plcElem b l.length (D l) := by
    have hbl := hown.lt
    obtain ⟨es, clock, hb, Ft, hs, hD⟩ := hown
    exact ⟨es, clock, (hW.block b hbl).trans hb, Ft, hs, hD⟩
  exact keys_run n hn g Bm b l hr J Jx hY W hJ ((hW.cell (p := ⟨Bm, 0, none⟩) hBm).trans hm) hown' h0

theorem infoUK : (Tryz.prog.info? 22).map (fun i => (i.zero, i.size, i.bytes)) = some (some (.int .u32 0), 1, 4) := by kernel_rfl

/-- The iterator's value over the box Bm. -/
abbrev seqV (Bm : Nat) : Value := .func (.func 67) #[] #[.pointer (some ⟨Bm, 0, none⟩)]

set_option maxRecDepth 100000 in
set_option maxHeartbeats 2000000 in
theorem append_u (Bm b : Nat) (l : Plcs) (hr : Rise l) (w : World) (hBm : Bm < w.heap.size) (hm : w.cell? ⟨Bm, 0, none⟩ = some (.map (some b))) (hown : w.ownsMap Tryz.prog 22 plcElem b l.length (D l)) :
    Calls Tryz.prog 80 #[.slice none 0 0, seqV Bm] w fun e w' => ∃ (v : Value) (ss : List Int), e = .returned v ∧ ss.Perm (keysI l) ∧ w'.ownsRow w.heap.size 22 1 v ss.length (ss.map U) ∧ (v = .slice none 0 0 ↔ ss = []) ∧ Below w.heap.size w w' := by
  have hL := hr.length
  obtain ⟨i0, hi, hz0, hz1, hz2⟩ := info_parts infoUK
  refine (callsIn_wide (n := 6)).1 ?_
  refine callsIn_of_wp_marks Tryz.func80 rfl trivial ?_ rfl
  simp only [Tryz.ntmps80, List.size_toArray, List.length_cons, List.length_nil, Nat.reduceAdd, Nat.reduceSub, Array.replicate_succ, Array.replicate_zero, List.push_toArray, List.append_toArray, List.nil_append, List.cons_append]
  gi_wp2
  have bO := Boxed.new w 24 (.slice none 0 0)
  have hB0 : Below w.heap.size w (w.alloc (.cells #[.slice none 0 0] 24)) := (Below.refl _ w).alloc (Nat.le_refl _) _
  refine wpIn_rangeFunc_ownG rfl (by omega) (gf := 67) (lb := #[.pointer (some ⟨Bm, 0, none⟩)]) rfl trivial (enters_of Tryz.func67 (by kernel_rfl) rfl)
    (keys_stop 5 (by omega) Bm b l hr (w.alloc (.cells #[.slice none 0 0] 24)) (by simp; omega) ((hB0.cell (p := ⟨Bm, 0, none⟩) hBm).trans hm) (hown.alloc _)) walksK_t walksK_b (Below.refl _ _) (fun _ => rfl)
    (fun pre W => (∃ v, Boxed W w.heap.size 24 v ∧ W.ownsRow w.heap.size 22 1 v pre.length (pre.map U) ∧ (v = .slice none 0 0 ↔ pre = [])) ∧ Below w.heap.size w W)
    (fun _ _ _ => False)
    (OwnFrom.and (Own.from (holdsRow_own w.heap.size w.heap.size 24 22 1 (fun pre => pre.length) (fun pre => pre.map U) (fun pre v => v = .slice none 0 0 ↔ pre = [])) _) (ownFrom_below (Nat.le_refl _) (by simp)))
    (fun _ _ _ _ _ hs _ _ => hs)
    ⟨⟨_, bO, World.ownsRow_nil _ _ _ _, by simp⟩, hB0⟩
    (fun x => { tmps := #[.slice none 0 0, seqV Bm, .pointer (some ⟨w.heap.size, 0, none⟩), undef, .slice none 0 0, .int .u32 x, seqV Bm, .int .u32 x, undef, undef, undef, undef, undef], defers := [] }) ?assign ?body ?done ?stop
  case assign =>
    intro g x W K hK
    gi_wp2
    exact hK
  case body =>
    rintro g pre x W ⟨⟨v, hv, hrow, hnil⟩, hB⟩ hlt
    have hc := hv.cell
    gi_wp2_with (gi_at_builtin; refine wpListIn_append_own _ rfl _ _ 24 rfl w.heap.size 22 i0 (.int .u32 0) 1 4 Tryz.underlying24 hi hz0 hz1 hz2 rfl (by decide) _ _ _ rfl (hrow.alloc _) ⟨W.heap.size, 0, none⟩ 1 1 [.int .u32 x] rfl rfl (cell_one_new _ _ _) (by simp [Value.oneCell']) (by unfold maxLen; omega) (by omega) (by have := hB.size; simp; omega) ?_; intro v' w1 hown' hgrow _; obtain ⟨g', cap', rfl⟩ := ownsRow_succ hown'; obtain ⟨hv1, hv2, hr2, hk2, hb2⟩ := hv.appended (by decide) hrow hB.size (Nat.le_refl _) hown' hgrow; have hc1 := hv1.cell; have hf1 := hv1.frozen)
    exact ⟨hk2.from _, hk2.walks, ⟨_, hv2, by simpa using hr2, by simp⟩, hB.trans hb2⟩
  case done =>
    rintro Dd ys W hD hS ⟨⟨v, hv, hrow, hnil⟩, hB⟩ hK
    have hc := hv.cell
    gi_wp2
    refine ⟨by simp, .inl ⟨_, _, rfl, run_takeDeferred hK, ?_⟩⟩
    exact ⟨_, results_tmp rfl _ _ _, v, ys, rfl, hS, ownsRow_putObj hrow _ hK rfl, hnil, hB.trans (belowK_b (w := w) (Nat.le_refl _) W Dd _ _ (by simp at hD; omega) hK rfl rfl)⟩
  case stop =>
    rintro Dd c pre W _ _ h _
    exact h.elim

theorem collect_u (Bm b : Nat) (l : Plcs) (hr : Rise l) (w : World) (hBm : Bm < w.heap.size) (hm : w.cell? ⟨Bm, 0, none⟩ = some (.map (some b))) (hown : w.ownsMap Tryz.prog 22 plcElem b l.length (D l)) :
    Calls Tryz.prog 65 #[seqV Bm] w fun e w' => ∃ (v : Value) (ss : List Int), e = .returned v ∧ ss.Perm (keysI l) ∧ w'.ownsRow w.heap.size 22 1 v ss.length (ss.map U) ∧ (v = .slice none 0 0 ↔ ss = []) ∧ Below w.heap.size w w' := by
  go_enter Tryz.func65, Tryz.ntmps65
  go_wp2_with (go_at_call 80; refine (append_u Bm b l hr _ hBm hm hown).mono ?_; rintro e w' ⟨v, ss, rfl, hS, hrow, hnil, hb⟩)
  go_ret
  exact ⟨v, ss, rfl, hS, hrow, hnil, hb⟩

theorem keysOf_u (mb : Option Nat) (w : World) : Calls Tryz.prog 44 #[.map mb] w fun e w' => e = .returned (seqV w.heap.size) ∧ w' = w.alloc (.cells #[.map mb] 85) := by
  go_enter Tryz.func44, Tryz.ntmps44
  go_wp2
  go_ret
  exact ⟨rfl, rfl⟩

theorem keysI_len (l : Plcs) : (keysI l).length = l.length := by simp [keysI]
set_option maxHeartbeats 1000000 in
/-- slices.Sorted(maps.Keys(m)): a new slice with the addresses by rising size. -/
theorem sorted_u (Bm b : Nat) (l : Plcs) (hr : Rise l) (w : World) (hBm : Bm < w.heap.size) (hm : w.cell? ⟨Bm, 0, none⟩ = some (.map (some b))) (hown : w.ownsMap Tryz.prog 22 plcElem b l.length (D l)) :
    Calls Tryz.prog 43 #[seqV Bm] w fun e w' => ∃ v : Value, e = .returned v ∧ w'.ownsRow w.heap.size 22 1 v l.length ((keysI l).map U) ∧ Below w.heap.size w w' := by
  have hL := hr.length
  go_enter Tryz.func43, Tryz.ntmps43
  go_wp2_with fail
  refine (collect_u Bm b l hr w hBm hm hown).mono ?_
  rintro e w1 ⟨v, ss, rfl, hS, hrow, hnil, hb⟩
  have hlen : ss.length = l.length := by have := hS.length_eq; rw [keysI_len] at this; exact this
  have hsorted : srtI ss = keysI l := sorted_keys hS hr
  have hc := sort_row w.heap.size ss v w1 hrow (by omega) hb.size
  rw [hsorted, hlen] at hc
  have HC := hide hc
  have HB := hide hb
  clear hc hb hsorted hlen hrow hnil hS
  go_wp2_with (go_at_call 66; refine HC.out.mono ?_; rintro e w' ⟨rfl, h2, hb2⟩)
  go_ret
  exact ⟨v, rfl, h2, HB.out.trans hb2⟩
end Go.Proofs.YtcffpmicencfpabGreat
namespace Go.Proofs.YtcffpmicencfpabGreat
open Go.RowKit Go.Lib Go.Sort Go.Maps Ip Bl Pm
set_option linter.unusedSimpArgs false
set_option linter.unusedVariables false

def plcC (p : Plc) : Array Value := #[.int .i64 p.e, .bool p.ends, .bool p.leads]
theorem zeroP (w : World) : (zeroValue 92).run Tryz.prog w = .ok (plcV noPlc) w := by kernel_rfl
theorem key_n {a : Nat} (ha : a < 4294967296) : keyOf Tryz.prog 22 (.int .u32 (a : Int)) = some (.int .u32 (a : Int)) := keyOf_int_mk Tryz.underlying22 (wf_u32 ⟨by omega, by omega⟩)
section
variable (w : World) {ops : Array Oper} {rest : List Oper} {o : Oper} {a : Act} {Q : Exit → Act → World → Prop}
theorem wpList_lookup_plc (hg : o.guard = none) (m x : Operand) (hop : o.op = Op.lookup 85 m x true) (b : Nat) (r : Plcs) (n : Nat) (k : Nat) (hk : k < 4294967296)
    (hm : a.eval m = .map (some b)) (hown : w.ownsMap Tryz.prog 22 plcElem b n (D r)) (hx : a.eval x = .int .u32 (k : Int))
    (hK : wpList Tryz.prog ops Q rest (a.put o.dst (.tuple #[.agg (plcC (at_ r k)), .bool (lookP r k).isSome])) w) : wpList Tryz.prog ops Q (o :: rest) a w :=
  wpList_lookup_own_ok w hg m x _ hop 22 92 lawU Tryz.underlying85 plcElem (zeroP w) (plcD noPlc) [] (plcElem_mk _) b n (D r) hm hown _ _ hx (key_n hk) (fun v ps hv => by
    rw [D_atKey] at hv
    rw [plcElem_at hv, has_n]
    exact hK)
theorem wpList_lookup_plc1 (hg : o.guard = none) (m x : Operand) (hop : o.op = Op.lookup 85 m x false) (b : Nat) (r : Plcs) (n : Nat) (k : Nat) (hk : k < 4294967296)
    (hm : a.eval m = .map (some b)) (hown : w.ownsMap Tryz.prog 22 plcElem b n (D r)) (hx : a.eval x = .int .u32 (k : Int))
    (hK : wpList Tryz.prog ops Q rest (a.put o.dst (.agg (plcC (at_ r k)))) w) : wpList Tryz.prog ops Q (o :: rest) a w := by
  refine wpList_plain hg fun K' hK' => ?_
  obtain ⟨v, ps, hrun, hv⟩ := hown.lookup lawU Tryz.underlying85 (zeroP w) (plcElem_mk noPlc) (key_n hk)
  rw [D_atKey] at hv
  rw [plcElem_at hv] at hrun
  unfold Oper.wp
  simp [execOp, hop, hm, hx, hrun, Result.andThen]
  exact hK' _ _ hK
theorem wpList_update_plc (hg : o.guard = none) (m x v : Operand) (hop : o.op = Op.mapUpdate 85 m x v) (b : Nat) (r : Plcs) (hr : Rise r) (k : Nat) (hk : k < 4294967296) (p : Plc)
    (hm : a.eval m = .map (some b)) (hown : w.ownsMap Tryz.prog 22 plcElem b r.length (D r)) (hx : a.eval x = .int .u32 (k : Int)) (hv : a.eval v = .agg (plcC p))
    (hK : ∀ w', w'.ownsMap Tryz.prog 22 plcElem b (ins k p r).length (D (ins k p r)) → w.grownBy w' (some b) → wpList Tryz.prog ops Q rest (a.put o.dst undef) w') : wpList Tryz.prog ops Q (o :: rest) a w :=
  wpList_mapUpdate_own w hg m x v _ hop 22 92 lawU Tryz.underlying85 plcElem b r.length (D r) hm hown (by have := hr.length; unfold maxLen; omega) _ _ _ hx hv (key_n hk) (plcD p) [] (plcElem_mk p) (fun w' h1 h2 => hK w' (by
    rw [D_put hr] at h1
    obtain ⟨es, clock, hb, F, _, hD⟩ := h1
    refine ⟨es, clock, hb, F, ?_, hD⟩
    have e : Maps.size (D (ins k p r)) = es.size := by rw [hD]; simp [Maps.size, length_sorted]
    rw [size_D] at e; omega) h2)
end

/-- Where the boxes of a run of reached lie: lo: its first block; B: those behind it are its list's rows, and what is laid for a while. -/
structure Sep (lo B bm br bw : Nat) : Prop where
  lm : lo ≤ bm
  lr : lo ≤ br
  lw : lo ≤ bw
  mB : bm < B
  rB : br < B
  wB : bw < B
  mr : bm ≠ br
  mw : bm ≠ bw
  rw_ : br ≠ bw
/-- What a call of reach leaves as it was: all but the map, the list's box, and the list's row. -/
structure Fr (lo bm bw : Nat) (v : Value) (W W' : World) : Prop where
  low : Below lo W W'
  blk : ∀ k, k < W.heap.size → k ≠ bm → k ≠ bw → v.ownBlock ≠ some k → W'.heap[k]? = W.heap[k]?
/-- The map of places and the list of what waits. -/
structure Cl (lo B bm br bw : Nat) (r : Plcs) (wait : List Nat) (v0 : Value) (W0 : World) (v : Value) (W : World) : Prop where
  rbox : W.heap[br]? = some (.cells #[.map (some bm)] 85 (0, 0))
  wbox : W.heap[bw]? = some (.cells #[v] 24 (0, 0))
  row : W.ownsRow B 22 1 v wait.length (wait.map wordV)
  own : W.ownsMap Tryz.prog 22 plcElem bm r.length (D r)
  fr : Fr lo bm bw v0 W0 W
  new : v.ownBlock = v0.ownBlock ∨ ∀ k, v.ownBlock = some k → W0.heap.size ≤ k
variable {lo B bm br bw : Nat} {r : Plcs} {wait : List Nat} {v0 v : Value} {W0 W W' : World}
theorem Fr.refl (lo bm bw : Nat) (v : Value) (W : World) : Fr lo bm bw v W W := ⟨Below.refl _ _, fun _ _ _ _ _ => rfl⟩
theorem Fr.ext (h : Fr lo bm bw v0 W0 W) (hl : lo ≤ W0.heap.size) (hb : Below W.heap.size W W') : Fr lo bm bw v0 W0 W' :=
  ⟨h.low.trans (hb.mono (Nat.le_trans hl h.low.size)), fun k hk h1 h2 h3 => (hb.block k (Nat.lt_of_lt_of_le hk h.low.size)).trans (h.blk k hk h1 h2 h3)⟩
theorem Fr.step (h : Fr lo bm bw v0 W0 W) {g : Option Nat} (hl : lo ≤ W0.heap.size) (hg : W.grownBy W' g) (hlo : ∀ k, g = some k → lo ≤ k) (hk : ∀ k, g = some k → W0.heap.size ≤ k ∨ k = bm ∨ k = bw ∨ v0.ownBlock = some k) : Fr lo bm bw v0 W0 W' := by
  refine ⟨h.low.grown hg (Nat.le_trans hl h.low.size) hlo, fun k hk0 h1 h2 h3 => (hg.block k (Nat.lt_of_lt_of_le hk0 h.low.size) (fun e => ?_)).trans (h.blk k hk0 h1 h2 h3)⟩
  rcases hk k e.symm with h4 | h4 | h4 | h4
  · omega
  · exact h1 h4
  · exact h2 h4
  · exact h3 h4
theorem grown_of_below (hb : Below W.heap.size W W') : W.grownBy W' none := ⟨hb.os, hb.tape, hb.output, hb.size, fun k hk _ => hb.block k hk⟩
theorem Cl.ext (hs : Sep lo B bm br bw) (hB : B ≤ W0.heap.size) (h : Cl lo B bm br bw r wait v0 W0 v W) (hb : Below W.heap.size W W') : Cl lo B bm br bw r wait v0 W0 v W' :=
  ⟨keptN hb h.rbox, keptN hb h.wbox, h.row.kept (grown_of_below hb) (by cases v.ownBlock <;> simp), h.own.kept (grown_of_below hb) (by simp), h.fr.ext (by have := hs.lm; have := hs.mB; omega) hb, h.new⟩
theorem grown_setCell (w : World) (p : Addr) (u : Value) : w.grownBy (w.setCell p u) (some p.block) :=
  ⟨rfl, rfl, rfl, by simp, fun k _ hk => Below.heap_setCell _ _ _ _ (fun e => hk (by rw [e]))⟩
theorem grown_setRow (w : World) (g : Nat) (cs : Array Value) : w.grownBy (w.setRow g cs) (some g) :=
  ⟨rfl, rfl, rfl, by simp, fun k _ hk => setRow_other w g k _ (fun e => hk (by rw [e]))⟩
/-- A box that was laid for a while is written. -/
theorem Cl.box (hs : Sep lo B bm br bw) (hB : B ≤ W0.heap.size) (h : Cl lo B bm br bw r wait v0 W0 v W) {g : Nat} {cs : Array Value} {fr : Nat × Nat} (hg0 : W0.heap.size ≤ g) (hbx : W.heap[g]? = some (.cells cs 92 fr)) (hg : W.grownBy W' (some g)) : Cl lo B bm br bw r wait v0 W0 v W' := by
  have h1 := hs.mB; have h2 := hs.rB; have h3 := hs.wB; have h4 := hs.lm
  have hv : v.ownBlock ≠ some g := fun e => by
    rcases h.row.2 with ⟨e1, _⟩ | ⟨g', cap, cur, e1, _, hb, _⟩
    · rw [e1] at e; cases e
    · rw [e1] at e
      obtain rfl : g' = g := by simpa [Value.ownBlock] using e
      rw [hbx] at hb
      injection hb with hb
      injection hb with _ hb
      exact absurd hb (by decide)
  exact ⟨(hg.block _ (Array.getElem?_eq_some_iff.1 h.rbox).1 (by intro e; injection e; omega)).trans h.rbox, (hg.block _ (Array.getElem?_eq_some_iff.1 h.wbox).1 (by intro e; injection e; omega)).trans h.wbox,
    h.row.kept hg (.inr hv), h.own.kept hg (by intro e; injection e; omega), h.fr.step (by omega) hg (fun k e => by cases e; omega) (fun k e => by cases e; exact .inl hg0), h.new⟩
theorem Cl.push (hs : Sep lo B bm br bw) (hB : B ≤ W0.heap.size) (h : Cl lo B bm br bw r wait v0 W0 v W) {o : Obj} {v' : Value} {x : Value} {a : Nat} (hx : x = wordV a) (hown : W'.ownsRow B 22 1 v' (wait.length + 1) (wait.map wordV ++ [x])) (hg : (W.alloc o).grownBy W' v.ownBlock)
    (hat : v'.ownBlock = v.ownBlock ∨ v'.ownBlock = some (W.alloc o).heap.size) : Cl lo B bm br bw r (wait ++ [a]) v0 W0 v' (W'.setCell ⟨bw, 0, none⟩ v') := by
  subst hx
  have h1 := hs.mB; have h2 := hs.rB; have h3 := hs.wB; have h4 := hs.lm; have h5 := hs.mr; have h6 := hs.mw; have h7 := hs.rw_; have h8 := hs.lw
  have hz := h.fr.low.size
  have ha := h.ext hs hB ((Below.refl _ W).alloc (Nat.le_refl _) o)
  have hlt := h.row.lt
  have hnb : ∀ k, k < B → some k ≠ v.ownBlock := fun k hk e => by have := (hlt k e.symm).1; omega
  have hsz : (W.alloc o).heap.size = W.heap.size + 1 := World.size_alloc _ _
  have hs' := grown_setCell W' ⟨bw, 0, none⟩ v'
  have wb : W'.heap[bw]? = some (.cells #[v] 24 (0, 0)) := (hg.block bw (by omega) (hnb bw h3)).trans ha.wbox
  have hv' : v'.ownBlock = none ∨ v'.ownBlock ≠ some bw := .inr fun e => by have := (hown.lt bw e).1; omega
  refine ⟨(hs'.block br (by have := hg.size; omega) (by intro e; injection e with e; exact h7 e)).trans ((hg.block br (by omega) (hnb br h2)).trans ha.rbox), ?_, ?_, ?_, ?_, ?_⟩
  · have := heap_setCell_same W' bw 0 #[v] 24 v' wb
    simpa using this
  · have := hown.kept hs' hv'
    simpa using this
  · exact (ha.own.kept hg (hnb bm h1)).kept hs' (by intro e; injection e with e; exact h6 e)
  · refine (ha.fr.step (by omega) hg (fun k e => by have := (hlt k e).1; omega) (fun k e => ?_)).step (by omega) hs' (fun k e => by cases e; exact h8) (fun k e => by cases e; exact .inr (.inr (.inl rfl)))
    rcases h.new with e1 | e1
    · exact .inr (.inr (.inr (by rw [← e1]; exact e)))
    · exact .inl (e1 k e)
  · rcases hat with e | e
    · rcases h.new with e1 | e1
      · exact .inl (e.trans e1)
      · exact .inr fun k hk => e1 k (by rw [← e]; exact hk)
    · exact .inr fun k hk => by rw [e] at hk; injection hk with hk; omega
theorem Cl.put (hs : Sep lo B bm br bw) (hB : B ≤ W0.heap.size) (h : Cl lo B bm br bw r wait v0 W0 v W) {r' : Plcs} (hown : W'.ownsMap Tryz.prog 22 plcElem bm r'.length (D r')) (hg : W.grownBy W' (some bm)) : Cl lo B bm br bw r' wait v0 W0 v W' := by
  have h1 := hs.mB; have h4 := hs.lm; have h5 := hs.mr; have h6 := hs.mw
  have hlt := h.row.lt
  have hz := h.fr.low.size
  exact ⟨(hg.block br (Array.getElem?_eq_some_iff.1 h.rbox).1 (by intro e; injection e with e; exact h5 e.symm)).trans h.rbox, (hg.block bw (Array.getElem?_eq_some_iff.1 h.wbox).1 (by intro e; injection e with e; exact h6 e.symm)).trans h.wbox,
    h.row.kept hg (.inr fun e => by have := (hlt bm e).1; omega), hown, h.fr.step (by omega) hg (fun k e => by cases e; exact h4) (fun k e => by cases e; exact .inr (.inl rfl)), h.new⟩
end Go.Proofs.YtcffpmicencfpabGreat
