/-
  The document's Find as plain lists: its two loops, round by round. No program in sight.
  The walk of the document's Find.
-/

import Derived.Test.YtcffpmicencfpabGreatZC7
import Derived.Test.YtcffpmicencfpabGreatZD2
set_option linter.unusedVariables false
namespace Go.Proofs.YtcffpmicencfpabGreat
namespace Bl
open Pm

theorem foldE_snoc (err : Nat → Nat) (L : List Nat) (a : Nat) : ∀ s : Nat × Nat, foldE err (L ++ [a]) s = if err a ≠ 0 ∧ ((foldE err L s).1 = 0 ∨ a < (foldE err L s).2) then (err a, a) else foldE err L s := by
  induction L with
  | nil => intro s; rfl
  | cons b L ih => intro s; rw [List.cons_append, foldE, ih]; rfl
/-- What the first loop holds behind k addresses: the error, and where. -/
def badK (err : Nat → Nat) (L : List Nat) (k : Nat) : Nat × Nat := foldE err (L.take k) (0, 0)
theorem badK_zero (err : Nat → Nat) (L : List Nat) : badK err L 0 = (0, 0) := rfl
theorem badK_end (err : Nat → Nat) (L : List Nat) : (badK err L L.length).1 = errL err L := by unfold badK errL; rw [List.take_length]
theorem badK_good {err : Nat → Nat} {L : List Nat} {k a : Nat} (h : L[k]? = some a) (h0 : err a = 0) : badK err L (k + 1) = badK err L k := by
  unfold badK
  rw [List.take_add_one, h, Option.toList_some, foldE_snoc, if_neg (fun e => e.1 h0)]
theorem badK_new {err : Nat → Nat} {L : List Nat} {k a : Nat} (h : L[k]? = some a) (h0 : err a ≠ 0) (h1 : (badK err L k).1 = 0 ∨ a < (badK err L k).2) : badK err L (k + 1) = (err a, a) := by
  unfold badK at *
  rw [List.take_add_one, h, Option.toList_some, foldE_snoc, if_pos ⟨h0, h1⟩]
theorem badK_old {err : Nat → Nat} {L : List Nat} {k a : Nat} (h : L[k]? = some a) (h1 : ¬ ((badK err L k).1 = 0 ∨ a < (badK err L k).2)) : badK err L (k + 1) = badK err L k := by
  unfold badK at *
  rw [List.take_add_one, h, Option.toList_some, foldE_snoc, if_neg (fun e => h1 e.2)]

/-- The blocks of the first w words, by their addresses. -/
def blkA (T : Tx) (seeds L : List Nat) (w : Nat) : List (Nat × Nat) := adrL T (blks T seeds L w)
theorem blkA_zero (T : Tx) (seeds L : List Nat) : blkA T seeds L 0 = [] := rfl
theorem blkA_no {T : Tx} {seeds L : List Nat} {w : Nat} (h : L.contains (T.adr w) = false) : blkA T seeds L (w + 1) = blkA T seeds L w := by
  unfold blkA; rw [blks, if_neg (by rw [h]; simp)]
theorem blkA_new {T : Tx} {seeds L : List Nat} {w : Nat} (h : L.contains (T.adr w) = true) (hb : begins T seeds L w = true) : blkA T seeds L (w + 1) = blkA T seeds L w ++ [(T.adr w, 0 + 1)] := by
  unfold blkA; rw [blks, if_pos h, if_pos hb]; simp [adrL]
theorem blkA_more {T : Tx} {seeds L : List Nat} {w : Nat} (h : L.contains (T.adr w) = true) (hb : begins T seeds L w = false) : ∃ l0 x y, blkA T seeds L w = l0 ++ [(x, y)] ∧ blkA T seeds L (w + 1) = l0 ++ [(x, y + 1)] := by
  have hw0 : w ≠ 0 := fun e => by unfold begins at hb; subst e; simp at hb
  have hprev : T.adr (w - 1) ∈ L := by
    unfold begins at hb
    simp only [Bool.or_eq_false_iff, Bool.not_eq_false', List.contains_iff_mem] at hb
    exact hb.1.1.2
  obtain ⟨b0, hb0, _⟩ := (tiles T seeds L w).1.all (w - 1) (by omega) hprev
  obtain ⟨l, b, e⟩ : ∃ l b, blks T seeds L w = l ++ [b] := by
    have hne : blks T seeds L w ≠ [] := fun e => by rw [e] at hb0; simp at hb0
    exact ⟨_, _, (List.dropLast_concat_getLast hne).symm⟩
  refine ⟨adrL T l, T.adr b.1, b.2, ?_, ?_⟩
  · unfold blkA; rw [e]; simp [adrL]
  · unfold blkA; rw [blks, if_pos h, if_neg (by rw [hb]; simp), e, bump_snoc]; simp [adrL]
theorem blks_few (T : Tx) (seeds L : List Nat) (w : Nat) : (blks T seeds L w).length ≤ w := by
  induction w with
  | zero => exact Nat.zero_le _
  | succ w ih =>
    rw [blks]
    split
    · split
      · rw [List.length_append]; simp; exact ih
      · rw [bump_len]; omega
    · omega
theorem blkA_few (T : Tx) (seeds L : List Nat) (w : Nat) : (blkA T seeds L w).length ≤ w ∧ ∀ b ∈ blkA T seeds L w, b.2 ≤ w := by
  refine ⟨by unfold blkA adrL; rw [List.length_map]; exact blks_few T seeds L w, fun b hb => ?_⟩
  unfold blkA adrL at hb
  obtain ⟨c, hc, rfl⟩ := List.mem_map.1 hb
  have := (tiles T seeds L w).1.pos c hc
  show c.2 ≤ w
  omega
theorem begins_hold (T : Tx) (seeds L : List Nat) (w : Nat) : begins T seeds L (w + 1) = (!L.contains (T.adr w) || (T.ends (T.adr w) || leader T seeds L (T.adr (w + 1)))) := by
  unfold begins
  rw [Nat.add_sub_cancel, decide_eq_false (Nat.succ_ne_zero w), Bool.false_or, Bool.or_assoc]
theorem begins_first (T : Tx) (seeds L : List Nat) : begins T seeds L 0 = true := by
  unfold begins; rfl
end Bl
end Go.Proofs.YtcffpmicencfpabGreat
namespace Go.Proofs.YtcffpmicencfpabGreat
open Go.RowKit Go.Lib Go.Sort Ip Bl Pm
set_option linter.unusedSimpArgs false
set_option linter.unusedVariables false

theorem cellsB_set0 (l : List (Nat × Nat)) (b : Nat × Nat) : (cellsB (l ++ [b])).set (l.length * 2) (.int .u32 (b.1 : Int)) = cellsB (l ++ [b]) := by
  rw [cellsB_app, List.set_append_right _ _ (by rw [cellsB_len]; omega), cellsB_len, Nat.sub_self]
  rfl
theorem owns_emptyB (W : World) (B : Nat) (hB : B ≤ W.heap.size) : (W.alloc (.cells #[] 45)).ownsRow B 45 2 (.slice (some ⟨W.heap.size, 0, none⟩) 0 0) 0 [] :=
  ⟨rfl, .inr ⟨W.heap.size, 0, #[], rfl, hB, heap_alloc_new W _, Nat.le_refl _, by decide, rfl, rfl⟩⟩
/-- Memory of the second loop: the image's box, the reached addresses, the blocks. -/
structure RkF (w : World) (i : Img) (u : Value) (L : List Nat) (v : Value) (lk : List (Nat × Nat)) (vo : Value) (W : World) : Prop where
  rr : Rr w i u L v W
  row : W.ownsRow w.heap.size 45 2 vo lk.length (cellsB lk)
variable {w : World} {i : Img} {u : Value} {L : List Nat} {v : Value} {lk : List (Nat × Nat)} {vo : Value} {W W' : World}
theorem RkF.ext (h : RkF w i u L v lk vo W) (hb : Below W.heap.size W W') : RkF w i u L v lk vo W' :=
  ⟨h.rr.ext hb, h.row.kept (grown_of_below hb) (by cases vo.ownBlock <;> simp)⟩
theorem RkF.app (h : RkF w i u L v lk vo W) {o : Obj} {vo' : Value} {a : Nat} (hown : W'.ownsRow w.heap.size 45 2 vo' (lk.length + 1) (cellsB lk ++ [.int .u32 (a : Int), .int .i64 0])) (hg : (W.alloc o).grownBy W' vo.ownBlock) : RkF w i u L v (lk ++ [(a, 0)]) vo' W' := by
  have ha := h.ext ((Below.refl _ W).alloc (Nat.le_refl _) o)
  have hbig := h.rr.big
  refine ⟨⟨(hg.block _ (by rw [World.size_alloc]; omega) (row_box h.row h.rr.ib (by decide))).trans ha.rr.ib, ha.rr.row.kept hg (rows_apart ha.rr.row ha.row (by decide)), ha.rr.low.grown hg (by rw [World.size_alloc]; omega) (fun k e => (h.row.lt k e).1), Nat.le_trans ha.rr.big hg.size⟩, ?_⟩
  rw [cellsB_app]
  simpa [cellsB] using hown
theorem RkF.put {g n c : Nat} {lk' : List (Nat × Nat)} (h : RkF w i u L v lk (.slice (some ⟨g, 0, none⟩) n c) W) (hn : lk.length = n) (hn' : lk'.length = n) (j : Nat) (x : Value) (hs : (cellsB lk).set j x = cellsB lk') : RkF w i u L v lk' (.slice (some ⟨g, 0, none⟩) n c) (W.setCell ⟨g, j, none⟩ x) := by
  have hrow := h.row
  rw [hn] at hrow
  obtain ⟨h1, h2⟩ := hrow.stored j x
  rw [hs] at h1
  exact ⟨⟨(Below.heap_setCell _ _ _ _ (fun e => row_box h.row h.rr.ib (by decide) (by rw [e]; rfl))).trans h.rr.ib, h.rr.row.kept h2 (rows_apart h.rr.row h.row (by decide)), h.rr.low.grown h2 h.rr.low.size (fun k e => by cases e; exact (h.row.lt _ rfl).1), by have := h.rr.big; simpa using this⟩, by rw [hn']; exact h1⟩
theorem RkF.bump {l0 : List (Nat × Nat)} {x y g n c : Nat} (h : RkF w i u L v (l0 ++ [(x, y)]) (.slice (some ⟨g, 0, none⟩) (n + 1) c) W) (hn : l0.length = n) :
    RkF w i u L v (l0 ++ [(x, y + 1)]) (.slice (some ⟨g, 0, none⟩) (n + 1) c) ((W.setCell ⟨g, n * 2, none⟩ (.int .u32 (x : Int))).setCell ⟨g, n * 2 + 1, none⟩ (.int .i64 ((y : Int) + 1))) := by
  have e : ((y : Int) + 1) = ((y + 1 : Nat) : Int) := by omega
  have h1 := h.put (lk' := l0 ++ [(x, y)]) (by rw [List.length_append, hn]; rfl) (by rw [List.length_append, hn]; rfl) (n * 2) (.int .u32 (x : Int)) (by rw [← hn]; exact cellsB_set0 l0 (x, y))
  rw [e]
  exact h1.put (by rw [List.length_append, hn]; rfl) (by rw [List.length_append, hn]; rfl) (n * 2 + 1) _ (by rw [← hn]; exact cellsB_set l0 (x, y) (y + 1))
theorem RkF.last {l0 : List (Nat × Nat)} {x y g n c : Nat} (h : RkF w i u L v (l0 ++ [(x, y)]) (.slice (some ⟨g, 0, none⟩) (n + 1) c) W) (hn : l0.length = n) :
    (W.cell? ⟨g, n * 2, none⟩ = some (.int .u32 (x : Int)) ∧ W.cell? ⟨g, n * 2 + 1, none⟩ = some (.int .i64 (y : Int))) ∧ (W.frozen? ⟨g, n * 2, none⟩ = false ∧ W.frozen? ⟨g, n * 2 + 1, none⟩ = false) := by
  have hl : (l0 ++ [(x, y)]).length = n + 1 := by rw [List.length_append, hn]; rfl
  have hrow := h.row
  rw [hl] at hrow
  have hc := cellsB_at (l0 ++ [(x, y)]) n (x, y) (by rw [List.getElem?_append_right (by omega), hn]; simp)
  exact ⟨⟨by rw [hrow.cellAt _ (by omega)]; exact hc.1, by rw [hrow.cellAt _ (by omega)]; exact hc.2⟩, hrow.frozenAt _, hrow.frozenAt _⟩
theorem RkF.set (h : RkF w i u L v lk vo W) {g : Nat} {cs : Array Value} {t : TypeId} {fr : Nat × Nat} (hg : W.heap[g]? = some (.cells cs t fr)) (hlo : w.heap.size + 1 ≤ g) (ht : t ≠ 22) (ht2 : t ≠ 45) (k : Nat) (x : Value) : RkF w i u L v lk vo (W.setCell ⟨g, k, none⟩ x) :=
  ⟨h.rr.set hg hlo ht k x, h.row.kept (grown_setCell W ⟨g, k, none⟩ x) (.inr (fun e => row_box h.row hg ht2 e.symm))⟩
/-- .. and an instruction's box. -/
structure RoF (w : World) (i : Img) (u : Value) (L : List Nat) (v : Value) (lk : List (Nat × Nat)) (vo : Value) (gx : Nat) (X : Ins) (W : World) : Prop where
  rk : RkF w i u L v lk vo W
  xb : W.heap[gx]? = some (.cells (insC X) 38 (0, 0))
theorem RoF.five (h : RkF w i u L v lk vo W) {g : Nat} {z0 z1 z2 z3 z4 : Value} (hg : W.heap[g]? = some (.cells #[z0, z1, z2, z3, z4] 38 (0, 0))) (hlo : w.heap.size + 1 ≤ g) (X : Ins) :
    RoF w i u L v lk vo g X (((((W.setCell ⟨g, 0, none⟩ (.int .i64 X.op)).setCell ⟨g, 1, none⟩ (.int .i64 X.rd)).setCell ⟨g, 2, none⟩ (.int .i64 X.rs1)).setCell ⟨g, 3, none⟩ (.int .i64 X.rs2)).setCell ⟨g, 4, none⟩ (.int .i64 X.imm)) := by
  have g1 := heap_setCell_same _ g 0 _ _ (.int .i64 X.op) hg
  have g2 := heap_setCell_same _ g 1 _ _ (.int .i64 X.rd) g1
  have g3 := heap_setCell_same _ g 2 _ _ (.int .i64 X.rs1) g2
  have g4 := heap_setCell_same _ g 3 _ _ (.int .i64 X.rs2) g3
  have g5 := heap_setCell_same _ g 4 _ _ (.int .i64 X.imm) g4
  exact ⟨((((h.set hg hlo (by decide) (by decide) 0 _).set g1 hlo (by decide) (by decide) 1 _).set g2 hlo (by decide) (by decide) 2 _).set g3 hlo (by decide) (by decide) 3 _).set g4 hlo (by decide) (by decide) 4 _, by rw [g5]; rfl⟩
theorem RoF.new (h : RkF w i u L v lk vo W) (X : Ins) : RoF w i u L v lk vo W.heap.size X (W.alloc (.cells (insC X) 38)) := ⟨h.ext ((Below.refl _ _).alloc (Nat.le_refl _) _), heap_alloc_new _ _⟩
theorem rleader_at (i : Img) (v ve vl : Value) (es L : List Nat) (a : Nat) (LD : Bool) (hLD : leader (txI i) (seedsI i es) L a = LD) (hel : es.length ≤ 1000) (hL : L.length ≤ 2001001) (hlt : ∀ b ∈ L, b < 4294967296) (hi : i.ok) (w : World) (hS : SlW w v i.words) (hE : SlW w ve es) (hLs : SlW w vl L) :
    Calls Tryz.prog 12 #[imgV i v, ve, vl, .int .u32 (a : Int)] w fun e W' => e = .returned (.bool LD) ∧ Below w.heap.size w W' := by
  subst hLD; exact leader_any i v ve vl es L a hel hL hlt hi w hS hE hLs
set_option maxHeartbeats 8000000 in
set_option maxRecDepth 100000 in
theorem rfind_any (i : Img) (v ve : Value) (es : List Nat) (hes : ∀ a ∈ es, a < 4294967296) (hel : es.length ≤ 1000) (hi : i.ok) (w : World) (hS : SlW w v i.words) (hE : SlW w ve es) :
    Calls Tryz.prog 4 #[imgV i v, ve] w fun e W' => ∃ (er : Nat) (l : List (Nat × Nat)), AnsF (txI i) (seedsI i es) er l ∧ ∃ u : Value, e = .returned (.tuple #[u, .int .i64 (er : Int)]) ∧ W'.ownsRow w.heap.size 45 2 u l.length (cellsB l) ∧ Below w.heap.size w W' := by
  obtain ⟨i0, hii, hz0, hz1, hz2⟩ := info_parts infoB
  obtain ⟨p0, q0, rfl, _⟩ := hS.len
  obtain ⟨pe, qe, rfl, _⟩ := hE.len
  have b0 : Below w.heap.size w (w.alloc (.cells (imgC i (.slice p0 i.words.length q0)) 26)) := (Below.refl _ w).alloc (Nat.le_refl _) _
  have hRE := rreached_any i _ _ es hes hel hi _ (hS.below b0) (hE.below b0)
  have HRE := hideE hRE
  have HF := hideE (txI_fair hi)
  have HI := hideE hi
  have HS := hideE hS
  have HE := hideE hE
  have HEL := hideE hel
  have hib := heap_alloc_new w (.cells (imgC i (.slice p0 i.words.length q0)) 26)
  have HB0 := hideE b0
  clear hRE hS hE hes hel b0 hi
  simp only [imgV] at HRE ⊢
  go_enter Tryz.func4, Tryz.ntmps4
  go_upto_region 2 with (first
    | (refine wpList_load_row rfl 26 _ rfl w.heap.size rfl _ _ _ _ hib Tryz.underlying26 rfl (by kernel_rfl) ?_)
    | (go_at_call 8; refine HRE.out.mono ?_; rintro e wa ⟨L, hcl, hlt, hll, u, rfl, hown, hba⟩; obtain ⟨pl, cl, rfl⟩ := own_slice' hown))
  obtain ⟨nL, hnL⟩ : ∃ nL, L.length = nL := ⟨_, rfl⟩
  have hba1 := HB0.out.trans (hba.mono (by simp))
  refine gen_world (Rr w i (.slice p0 i.words.length q0) L (.slice pl nL cl)) ⟨keptN hba hib, by rw [World.size_alloc] at hown; rw [← hnL]; exact hown, hba1, by have := hba.size; simpa using this⟩ ?_
  have HCL := hideE hcl
  have HLT := hideE hlt
  have HNL := hideE hnL
  rw [hnL] at hll ⊢
  clear hib HRE HB0 hcl hlt hown hba hba1 hnL
  intro wa h1
  go_upto_region 4 with fail
  go_loopg [7, 8, 9] nL (fun q s7 s8 j W => ∃ k : Nat, k + q = nL ∧ s7 = .int .i64 ((badK (txI i).err L k).1 : Int) ∧ s8 = .int .u32 ((badK (txI i).err L k).2 : Int) ∧ j = .int .i64 (k : Int) ∧ Rr w i (.slice p0 i.words.length q0) L (.slice pl nL cl) W)
  case atStart => exact ⟨0, by omega, rfl, rfl, rfl, h1⟩
  case round =>
    clear h1
    obtain ⟨k, hkq, rfl, rfl, rfl, h2⟩ := hrel
    obtain ⟨s, hs⟩ : ∃ s, badK (txI i).err L k = s := ⟨_, rfl⟩
    obtain ⟨B, M⟩ := s
    have HBK := hideE hs
    rw [hs]
    dsimp only
    clear hs
    cases gk with
    | succ q =>
      have hk : ((k : Int) < (nL : Int)) := by omega
      have hk0 : (0 : Int) ≤ (k : Int) := by omega
      have hwk : IntKind.i64.wrap ((k : Int) + 1) = (k : Int) + 1 := wrE (by omega) (by omega)
      obtain ⟨a, ha⟩ : ∃ a, L[k]? = some a := ⟨L[k]'(by rw [HNL.out]; omega), List.getElem?_eq_getElem (by rw [HNL.out]; omega)⟩
      have hal := HLT.out a (List.mem_of_getElem? ha)
      have hrow := h2.row
      rw [HNL.out] at hrow
      obtain ⟨g, rfl⟩ := own_some hrow (by omega)
      have a3 : wr.cell? ⟨g, k, none⟩ = some (.int .u32 (a : Int)) := by
        rw [hrow.cellAt k (by omega), List.getElem?_map, ha]; rfl
      have ib' : wr.heap[w.heap.size]? = some (.cells #[.int .u32 (i.base.toNat : Int), .int .u32 (i.entry.toNat : Int), .slice p0 i.words.length q0, .int .i64 (i.seg : Int)] 26 (0, 0)) := h2.ib
      obtain ⟨⟨m0, m1, m2, m3⟩, _⟩ := four ib'
      have Ha := hideE ha
      obtain ⟨X, hX⟩ : ∃ X, insA i a = X := ⟨_, rfl⟩
      obtain ⟨op, rd, rs1, rs2, imm⟩ := X
      obtain ⟨ER, hER⟩ : ∃ ER, errA i a = ER := ⟨_, rfl⟩
      have HAt := hideE (fun W (hW : Below w.heap.size w W) => rat8_lit i (.slice p0 i.words.length q0) a hal HI.out op rd rs1 rs2 imm hX ER hER W (HS.out.below hW))
      have HER := hideE hER
      have hld := h2.low.drew
      have hgl : g < wr.heap.size := (hrow.lt g rfl).2
      have hbg : w.heap.size < wr.heap.size := h2.big
      have hgn : g ≠ wr.heap.size := by omega
      have hbn : w.heap.size ≠ wr.heap.size := by omega
      have H2 := hideE h2
      clear ha ib' hX hER h2 hrow
      go_upto_region 6 with fail
      go_cut [10, 11] (fun s10 s11 W => ∃ gx, s10 = .pointer (some ⟨gx, 0, none⟩) ∧ s11 = .int .i64 (ER : Int) ∧ Rr w i (.slice p0 i.words.length q0) L (.slice (some ⟨g, 0, none⟩) nL cl) W)
      case first =>
        go_region_with (go_at_call 9; refine (HAt.out _ (by first | exact hld | exact hld.alloc hld.size _)).mono ?_; rintro e wh ⟨rfl, hbh⟩; first | (obtain ⟨⟨y0, y1, y2, y3, y4⟩, f0, f1, f2, f3, f4⟩ := five_facts (keptN hbh (heap_alloc_new wr (.cells #[.int .i64 0, .int .i64 0, .int .i64 0, .int .i64 0, .int .i64 0] 38)))) | skip)
        all_goals
          go_wp2_with fail
          go_meet
          case rel =>
            first
              | exact ⟨_, rfl, rfl, (Rs.new ((H2.out.ext (Below.refl _ wr).drew).ext hbh) ⟨op, rd, rs1, rs2, imm⟩).rr⟩
              | exact ⟨_, rfl, rfl, (Rs.five (((H2.out.ext (Below.refl _ wr).drew).ext ((Below.refl _ _).alloc (Nat.le_refl _) _)).ext hbh) (keptN hbh (heap_alloc_new wr (.cells #[.int .i64 0, .int .i64 0, .int .i64 0, .int .i64 0, .int .i64 0] 38))) (by omega) ⟨op, rd, rs1, rs2, imm⟩).rr⟩
      case rest =>
        clear a3 m0 m1 m2 m3 hld hbg hgl hgn hbn H2 HAt
        obtain ⟨gx, rfl, rfl, h5⟩ := hcut
        have hrow := h5.row
        rw [HNL.out] at hrow
        have a3 : wc.cell? ⟨g, k, none⟩ = some (.int .u32 (a : Int)) := by
          rw [hrow.cellAt k (by omega), List.getElem?_map, Ha.out]; rfl
        have H5 := hideE h5
        clear h5 hrow
        by_cases h0 : ER = 0
        · have heq : ((ER : Int) != 0) = false := by rw [h0]; rfl
          have HN : Hid (badK (txI i).err L (k + 1) = (B, M)) := (badK_good Ha.out (show errA i a = 0 by rw [HER.out, h0])).trans HBK.out
          clear h0
          go_wp2_with fail
          go_roundg q
          case measure => omega
          case rel => exact ⟨k + 1, by omega, by rw [HN.out], by rw [HN.out], by simp, H5.out⟩
        · have hne : ((ER : Int) != 0) = true := bne_iff_ne.2 (by omega)
          have h0' : (txI i).err a ≠ 0 := by show errA i a ≠ 0; rw [HER.out]; exact h0
          have H0 := hideE h0'
          clear h0 h0'
          by_cases hB : B = 0
          · have hb0 : ((B : Int) == 0) = true := by rw [hB]; rfl
            have HN : Hid (badK (txI i).err L (k + 1) = (ER, a)) := by
              show _ = _
              rw [badK_new Ha.out H0.out (.inl (by rw [HBK.out]; exact hB))]
              show (errA i a, a) = _
              rw [HER.out]
            clear hB
            go_wp2_with fail
            go_roundg q
            case measure => omega
            case rel => exact ⟨k + 1, by omega, by rw [HN.out], by rw [HN.out], by simp, H5.out⟩
          · have hb0 : ((B : Int) == 0) = false := beq_eq_false_iff_ne.2 (by omega)
            have HB := hideE hB
            clear hB
            by_cases hlt : a < M
            · have hlt' : (a : Int) < (M : Int) := by omega
              have HN : Hid (badK (txI i).err L (k + 1) = (ER, a)) := by
                show _ = _
                rw [badK_new Ha.out H0.out (.inr (by rw [HBK.out]; exact hlt))]
                show (errA i a, a) = _
                rw [HER.out]
              have hd : decide ((a : Int) < (M : Int)) = true := decide_eq_true hlt'
              clear hlt
              go_wp2_with fail
              go_roundg q
              case measure => omega
              case rel => exact ⟨k + 1, by omega, by rw [HN.out], by rw [HN.out], by simp, H5.out⟩
            · have hlt' : ¬ ((a : Int) < (M : Int)) := by omega
              have HN : Hid (badK (txI i).err L (k + 1) = (B, M)) := by
                show _ = _
                rw [badK_old Ha.out (by rw [HBK.out]; exact fun e => e.elim HB.out hlt), HBK.out]
              have hd : decide ((a : Int) < (M : Int)) = false := decide_eq_false hlt'
              clear hlt
              go_wp2_with fail
              go_roundg q
              case measure => omega
              case rel => exact ⟨k + 1, by omega, by rw [HN.out], by rw [HN.out], by simp, H5.out⟩
    | zero =>
      obtain rfl : k = nL := by omega
      have hk : ¬ ((k : Int) < (k : Int)) := by omega
      have HBE : Hid (errL (txI i).err L = B) := by
        have := badK_end (txI i).err L
        rw [HNL.out, HBK.out] at this
        exact this.symm
      clear HBK
      by_cases hB : B = 0
      · subst hB
        have hnx : RkF w i (.slice p0 i.words.length q0) L (.slice pl k cl) [] (.slice (some ⟨wr.heap.size, 0, none⟩) 0 0) (wr.alloc (.cells #[] 45)) := ⟨h2.ext ((Below.refl _ _).alloc (Nat.le_refl _) _), owns_emptyB wr _ h2.low.size⟩
        have HNX := hideE hnx
        clear h2 hnx hkq
        go_upto_region 14 with fail
        refine gen_world (RkF w i (.slice p0 i.words.length q0) L (.slice pl k cl) [] (.slice (some ⟨wr.heap.size, 0, none⟩) 0 0)) HNX.out ?_
        clear HNX hk
        generalize wr.heap.size = gz
        intro wb h3
        go_loopg [12, 13] i.words.length (fun q s12 j W => ∃ t : Nat, t + q = i.words.length ∧ j = .int .i64 (t : Int) ∧ RkF w i (.slice p0 i.words.length q0) L (.slice pl k cl) (blkA (txI i) (seedsI i es) L t) s12 W)
        case atStart => exact ⟨0, by omega, rfl, h3⟩
        case round =>
          clear h3
          obtain ⟨t, htq, rfl, h4⟩ := hrel
          obtain ⟨pv, cv, rfl⟩ := own_slice' h4.row
          obtain ⟨bl, hbl⟩ : ∃ bl, blkA (txI i) (seedsI i es) L t = bl := ⟨_, rfl⟩
          have hfew := blkA_few (txI i) (seedsI i es) L t
          rw [hbl] at h4 hfew
          rw [hbl]
          obtain ⟨nb, hnb⟩ : ∃ nb, bl.length = nb := ⟨_, rfl⟩
          rw [hnb] at h4 hfew
          rw [hnb]
          have hw0 := HI.out.2.2.1
          have HBL := hideE hbl
          have HFEW := hideE hfew
          have HNB := hideE hnb
          have hnbl : nb ≤ 1000000 := by have := hfew.1; omega
          have ib' : wr.heap[w.heap.size]? = some (.cells #[.int .u32 (i.base.toNat : Int), .int .u32 (i.entry.toNat : Int), .slice p0 i.words.length q0, .int .i64 (i.seg : Int)] 26 (0, 0)) := h4.rr.ib
          obtain ⟨⟨m0, m1, m2, m3⟩, _⟩ := four ib'
          clear hbl hfew hnb ib'
          cases gk with
          | zero =>
            have ht : t = i.words.length := by omega
            have hk2 : ¬ ((t : Int) < (i.words.length : Int)) := by omega
            have HAns : Hid (AnsF (txI i) (seedsI i es) 0 bl) := ⟨L, HCL.out, HBE.out.symm, by rw [if_pos rfl, ← HBL.out, ht]; rfl⟩
            have hrow := h4.row
            have hlow := h4.rr.low
            rw [HNB.out] at hrow
            clear h4 ht
            go_wp2_with fail
            go_ret2
            exact ⟨0, bl, HAns.out, _, rfl, by rw [HNB.out]; exact hrow, hlow⟩
          | succ q =>
            have hk2 : (t : Int) < (i.words.length : Int) := by omega
            have hwk : IntKind.i64.wrap ((t : Int) + 1) = (t : Int) + 1 := wrE (by omega) (by omega)
            have hw4 : IntKind.i64.wrap (4 * (t : Int)) = 4 * (t : Int) := wrE (by omega) (by omega)
            obtain ⟨A, hA⟩ : ∃ A, i.base.toNat + 4 * t = A := ⟨_, rfl⟩
            have hAl : A < 4294967296 := by have : i.base.toNat + 4 * i.words.length ≤ 4294967296 := HI.out.2.1; omega
            have hle : ((i.base.toNat : Int) + 4 * (t : Int)) % 4294967296 = (A : Int) := by omega
            have HA : Hid ((txI i).adr t = A) := hA
            have HAN := hideE hA
            have HHas := hideE (fun (a : Nat) (W : World) (hW : SlW W (.slice pl k cl) L) => has_any8 L (.slice pl k cl) a (by rw [HNL.out]; omega) W hW)
            obtain ⟨hb, hhb⟩ : ∃ hb, hasL L A = hb := ⟨_, rfl⟩
            have HH := hideE (hhb ▸ HHas.out A wr h4.rr.slw)
            have HHB := hideE hhb
            have H4 := hideE h4
            clear hA hhb h4
            cases hb with
            | false =>
              have HNo : Hid (blkA (txI i) (seedsI i es) L (t + 1) = bl) := (blkA_no (by rw [HA.out]; exact HHB.out)).trans HBL.out
              go_upto_region 17 with fail
              rw [hle]
              clear hle
              go_wp2_with (go_at_call 10; refine HH.out.mono ?_; rintro e w5 ⟨rfl, rfl⟩)
              go_roundg q
              case measure => omega
              case rel => exact ⟨t + 1, by omega, by simp, by rw [HNo.out]; exact H4.out⟩
            | true =>
              obtain ⟨P, hP⟩ : ∃ P, (A + 4294967292) % 4294967296 = P := ⟨_, rfl⟩
              have hPl : P < 4294967296 := by omega
              have hPe : ((A : Int) - 4) % 4294967296 = (P : Int) := by omega
              have HPP := hideE hP
              obtain ⟨X, hX⟩ : ∃ X, insA i P = X := ⟨_, rfl⟩
              obtain ⟨op, rd, rs1, rs2, imm⟩ := X
              obtain ⟨ER, hER⟩ : ∃ ER, errA i P = ER := ⟨_, rfl⟩
              have HAt := hideE (fun W (hW : Below w.heap.size w W) => rat8_lit i (.slice p0 i.words.length q0) P hPl HI.out op rd rs1 rs2 imm hX ER hER W (HS.out.below hW))
              have HX := hideE hX
              clear hP hX hER hPl
              go_upto_region 17 with fail
              rw [hle]
              clear hle
              go_upto_region 18 with (go_at_call 10; refine HH.out.mono ?_; rintro e w5 ⟨rfl, rfl⟩)
              have hld := H4.out.rr.low
              go_cut [15] (fun s15 W => ∃ gx, s15 = .pointer (some ⟨gx, 0, none⟩) ∧ RoF w i (.slice p0 i.words.length q0) L (.slice pl k cl) bl (.slice pv nb cv) gx ⟨op, rd, rs1, rs2, imm⟩ W)
              case first =>
                go_wp2_with (go_at_call 9; refine (HAt.out _ hld).mono ?_; rintro e wh ⟨rfl, hbh⟩)
                go_meet
                case rel =>
                  have hbw := (H4.out.ext hbh).rr.big
                  first
                    | exact ⟨_, rfl, RoF.new (H4.out.ext hbh) ⟨op, rd, rs1, rs2, imm⟩⟩
                    | exact ⟨_, rfl, RoF.five ((H4.out.ext hbh).ext ((Below.refl _ _).alloc (Nat.le_refl _) _)) (heap_alloc_new wh _) hbw ⟨op, rd, rs1, rs2, imm⟩⟩
              case rest =>
                clear m0 m1 m2 m3 hld HAt HH H4
                obtain ⟨gx, rfl, h5⟩ := hcut
                obtain ⟨⟨c0, c1, c2, c3, c4⟩, _⟩ := five_facts (show wc.heap[gx]? = some (.cells #[.int .i64 op, .int .i64 rd, .int .i64 rs1, .int .i64 rs2, .int .i64 imm] 38 (0, 0)) from h5.xb)
                have ib' : wc.heap[w.heap.size]? = some (.cells #[.int .u32 (i.base.toNat : Int), .int .u32 (i.entry.toNat : Int), .slice p0 i.words.length q0, .int .i64 (i.seg : Int)] 26 (0, 0)) := h5.rk.rr.ib
                have HIB := hideE ib'
                have HSL := hideE h5.rk.rr.slw
                have HLW := hideE h5.rk.rr.low
                have H5 := hideE h5
                clear ib' h5
                go_upto_region 19 with fail
                go_cut [102] (fun s102 W => s102 = .bool (begins (txI i) (seedsI i es) L t) ∧ RkF w i (.slice p0 i.words.length q0) L (.slice pl k cl) bl (.slice pv nb cv) W)
                case first =>
                  by_cases h0 : t = 0
                  · have hq0 : ((t : Int) == 0) = true := by rw [h0]; rfl
                    have HBG : Hid (begins (txI i) (seedsI i es) L t = true) := by show _ = _; rw [h0]; exact begins_first _ _ _
                    clear h0
                    go_wp2_with fail
                    go_meet
                    case rel => exact ⟨by rw [HBG.out], H5.out.rk⟩
                  · have hq0 : ((t : Int) == 0) = false := beq_eq_false_iff_ne.2 (by omega)
                    obtain ⟨s, hs⟩ : ∃ s, t = s + 1 := ⟨t - 1, by omega⟩
                    have hPa : (txI i).adr s = P := by
                      show i.base.toNat + 4 * s = P
                      have h1 := HAN.out
                      have h2 := HPP.out
                      omega
                    have HBG : Hid (begins (txI i) (seedsI i es) L t = (!hasL L P || (endsI ⟨op, rd, rs1, rs2, imm⟩ || leader (txI i) (seedsI i es) L A))) := by
                      show _ = _
                      have e := begins_hold (txI i) (seedsI i es) L s
                      rw [← hs, hPa, HA.out] at e
                      rw [e, ← HX.out]; rfl
                    clear h0 hs hPa
                    obtain ⟨hp, hhp⟩ : ∃ hp, hasL L P = hp := ⟨_, rfl⟩
                    have HP2 := hideE (hhp ▸ HHas.out P wc HSL.out)
                    obtain ⟨EN, hEN⟩ : ∃ EN, endsI ⟨op, rd, rs1, rs2, imm⟩ = EN := ⟨_, rfl⟩
                    have HEn := hideE (fun W => rends_lit op rd rs1 rs2 imm EN hEN W)
                    obtain ⟨LD, hLD⟩ : ∃ LD, leader (txI i) (seedsI i es) L A = LD := ⟨_, rfl⟩
                    have HLd := hideE (fun W (hW : Below wc.heap.size wc W) => rleader_at i (.slice p0 i.words.length q0) (.slice pe es.length qe) (.slice pl k cl) es L A LD hLD HEL.out (by rw [HNL.out]; omega) HLT.out HI.out W (HS.out.below (HLW.out.trans (hW.mono HLW.out.size))) (HE.out.below (HLW.out.trans (hW.mono HLW.out.size))) (HSL.out.below hW))
                    rw [hhp, hEN, hLD] at HBG
                    simp only [imgV] at HLd
                    clear hhp hEN hLD
                    cases hp with
                    | false =>
                      go_wp2_with (go_at_call 10; refine HP2.out.mono ?_; rintro e w6 ⟨rfl, rfl⟩)
                      go_meet
                      case rel => exact ⟨by rw [HBG.out]; rfl, H5.out.rk⟩
                    | true =>
                      cases EN with
                      | true =>
                        go_wp2_with (first
                          | (go_at_call 10; refine HP2.out.mono ?_; rintro e w6 ⟨rfl, rfl⟩)
                          | (go_at_call 11; refine (HEn.out _).mono ?_; rintro e we ⟨rfl, hbe⟩))
                        go_meet
                        case rel => exact ⟨by rw [HBG.out]; rfl, H5.out.rk.ext hbe⟩
                      | false =>
                        go_wp2_with (first
                          | (go_at_call 10; refine HP2.out.mono ?_; rintro e w6 ⟨rfl, rfl⟩)
                          | (go_at_call 11; refine (HEn.out _).mono ?_; rintro e we ⟨rfl, hbe⟩; obtain ⟨⟨n0, n1, n2, n3⟩, _⟩ := four (keptN hbe HIB.out))
                          | (go_at_call 12; refine (HLd.out _ hbe).mono ?_; rintro e wl ⟨rfl, hbl⟩))
                        go_meet
                        case rel => exact ⟨by rw [HBG.out]; rfl, (H5.out.rk.ext hbe).ext hbl⟩
                case rest =>
                  clear c0 c1 c2 c3 c4 HIB HSL HLW H5
                  obtain ⟨rfl, h6⟩ := hcut
                  obtain ⟨bg, hbg⟩ : ∃ bg, begins (txI i) (seedsI i es) L t = bg := ⟨_, rfl⟩
                  rw [hbg]
                  have HBG := hideE hbg
                  have hbr := h6.row
                  rw [HNB.out] at hbr
                  have hsz := h6.rr.low.size
                  have H6 := hideE h6
                  have HCON : Hid (L.contains ((txI i).adr t) = true) := by show _ = _; rw [HA.out]; exact HHB.out
                  clear hbg h6
                  go_upto_if 102 with fail
                  go_cut [12] (fun s12 W => ∃ (gl : Nat) (l0 : List (Nat × Nat)) (x y n c : Nat), l0.length = n ∧ s12 = .slice (some ⟨gl, 0, none⟩) (n + 1) c ∧ RkF w i (.slice p0 i.words.length q0) L (.slice pl k cl) (l0 ++ [(x, y)]) (.slice (some ⟨gl, 0, none⟩) (n + 1) c) W ∧ blkA (txI i) (seedsI i es) L (t + 1) = l0 ++ [(x, y + 1)] ∧ y ≤ 1000000 ∧ n ≤ 1000000)
                  case first =>
                    cases bg with
                    | false =>
                      obtain ⟨l0, x, y, e1, e2⟩ := blkA_more HCON.out HBG.out
                      rw [HBL.out] at e1
                      obtain ⟨n, hn⟩ : ∃ n, l0.length = n := ⟨_, rfl⟩
                      have hnn : nb = n + 1 := by rw [← HNB.out, e1, List.length_append, hn]; rfl
                      obtain ⟨gl, rfl⟩ := own_some hbr (by omega)
                      have hy : y ≤ 1000000 := by
                        have := HFEW.out.2 (x, y) (by rw [e1]; simp)
                        simp only at this; omega
                      have HE1 := hideE e1
                      have HE2 := hideE e2
                      have HN := hideE hn
                      have HNN := hideE hnn
                      clear e1 e2 hn hnn
                      go_wp2_with fail
                      go_meet
                      case rel =>
                        have hnn := HNN.out
                        have h9 := H6.out
                        rw [HE1.out, hnn] at h9
                        exact ⟨gl, l0, x, y, n, cv, HN.out, by rw [hnn], h9, HE2.out, hy, by omega⟩
                    | true =>
                      have HE2 := hideE (blkA_new HCON.out HBG.out)
                      go_wp2_with (at_builtin; refine wpList_append_own _ rfl _ _ 27 rfl w.heap.size 45 i0 (.agg #[.int .u32 0, .int .i64 0]) 2 16 Tryz.underlying27 hii hz0 hz1 hz2 rfl (by decide) _ _ _ rfl (hbr.alloc _) ⟨_, 0, none⟩ 1 1 [.int .u32 (A : Int), .int .i64 0] rfl rfl (cell_pair_new _ _ _ _) (by simp [Value.oneCell']) (by unfold maxLen; omega) (by omega) (by simp; omega) ?_; intro vl' w3 hown' hgrow _; obtain ⟨pv', cv', rfl⟩ := own_slice' hown'; obtain ⟨gl, rfl⟩ := own_some hown' (by omega))
                      go_meet
                      case rel => exact ⟨gl, bl, A, 0, nb, cv', HNB.out, rfl, H6.out.app (by rw [HNB.out]; exact hown') hgrow, by rw [HE2.out, HBL.out, HA.out], by omega, by omega⟩
                  case rest =>
                    clear hbr hsz H6
                    obtain ⟨gl, l0, x, y, n, c, hn, rfl, h8, hblk, hy, hnn⟩ := hcut
                    obtain ⟨⟨e0, e1⟩, f0, f1⟩ := h8.last hn
                    have H8 := hideE ((h8.ext (Below.refl _ wc).drew).bump hn)
                    have HBK := hideE hblk
                    have hsub : IntKind.i64.wrap (((n : Nat) : Int) + 1 - 1) = (n : Int) := by rw [show ((n : Nat) : Int) + 1 - 1 = (n : Int) by omega]; exact wrE (by omega) (by omega)
                    have hn0 : (0 : Int) ≤ (n : Int) := by omega
                    have hn1 : (n : Int) < (n : Int) + 1 := by omega
                    have hwy : IntKind.i64.wrap ((y : Int) + 1) = (y : Int) + 1 := wrE (by omega) (by omega)
                    clear h8 hblk hn
                    go_upto_region 22 with fail
                    go_region_with fail
                    all_goals
                      go_wp2_with fail
                      go_roundg q
                      case measure => omega
                      case rel => exact ⟨t + 1, by omega, by simp, by rw [HBK.out]; exact H8.out⟩
      · have hne : ((B : Int) != 0) = true := bne_iff_ne.2 (by omega)
        have HAns : Hid (AnsF (txI i) (seedsI i es) B []) := ⟨L, HCL.out, HBE.out.symm, by rw [if_neg hB]⟩
        have hlow := h2.low
        clear h2 hB
        go_wp2_with fail
        go_ret2
        exact ⟨B, [], HAns.out, _, rfl, World.ownsRow_nil _ _ _ _, hlow⟩
end Go.Proofs.YtcffpmicencfpabGreat
