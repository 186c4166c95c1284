/-
  Contract of number: a term's place, or a new one behind all.
  Contract of number, walked.
  Contracts of the code's New, Len, has, Const, Var, Op, Node.
-/

import Derived.Test.YthlefedljgmmfaaZW2
import Derived.Test.YthlefedljgmmfaaZW6
import Derived.Test.YthlefedljgmmfaaZa
namespace Go.Proofs.Ythlefedljgmmfaa
open Go.RowKit Go.Lib Go.Shelf Go.Maps Tm
set_option linter.unusedSimpArgs false
set_option linter.unusedVariables false

theorem tnumbers_any {g : Nat} {L : List Trm} {v : Value} {dn : Int} {mp : Option Nat} (w : World) (hg : w.heap[g]? = some (.cells (dagC L.length v dn mp) 72 (0, 0))) (hF : Found w L dn mp) :
    Calls Try.prog 47 #[ptrV g] w fun e W => ∃ b, e = .returned (.map (some b)) ∧ (mp = some b ∨ w.heap.size ≤ b) ∧ W.heap[g]? = some (.cells (dagC L.length v 1 (some b)) 72 (0, 0)) ∧ numsAt W b L.length (numD L) ∧ w.grownBy W (some g) := by
  rcases hF with ⟨rfl, rfl, rfl⟩ | ⟨rfl, b, rfl, ho⟩
  · refine (numbers_first w hg).mono ?_
    rintro e W ⟨b, rfl, h1, h2, h3, h4⟩
    exact ⟨b, rfl, .inr h1, h2, h3, h4⟩
  · refine (numbers_done w hg).mono ?_
    rintro e W ⟨rfl, hb⟩
    exact ⟨b, rfl, .inl rfl, keptN hb hg, ho.kept (grownT_below hb none) (by simp), grownT_below hb _⟩
/-- While number is at work: the box of the term, and the object. -/
structure NmS (w : World) (g : Nat) (t : Trm) (v : Value) (b cnt : Nat) (L1 L2 : List Trm) (fp : Nat → Prop) (W : World) : Prop where
  tb : W.heap[w.heap.size]? = some (.cells (termC t) 33 (0, 0))
  box : W.heap[g]? = some (.cells (dagC cnt v 1 (some b)) 72 (0, 0))
  row : W.ownsRow 0 33 5 v L1.length (trmsC L1)
  own : numsAt W b L2.length (numD L2)
  chg : Chg fp (fun k => k = g ∨ v.ownBlock = some k ∨ k = b) w W
  vne : v.ownBlock ≠ some w.heap.size
section
variable {w W W' : World} {g : Nat} {t : Trm} {v : Value} {b cnt : Nat} {L1 L2 : List Trm} {fp : Nat → Prop}
theorem NmS.gne (h : NmS w g t v b cnt L1 L2 fp W) : w.heap.size ≠ g := fun e => by
  have h1 := h.tb
  rw [e, h.box] at h1; injection h1 with h1; injection h1 with _ h1; exact absurd h1 (by decide)
theorem NmS.bne (h : NmS w g t v b cnt L1 L2 fp W) : b ≠ w.heap.size ∧ b ≠ g := by
  obtain ⟨es, c, hb, _⟩ := h.own
  constructor
  · intro e; rw [e, h.tb] at hb; cases hb
  · intro e; rw [e, h.box] at hb; cases hb
theorem NmS.vg (h : NmS w g t v b cnt L1 L2 fp W) : v.ownBlock ≠ some g ∧ v.ownBlock ≠ some b := by
  constructor
  · exact fun e => row_boxT h.row h.box (by decide) e.symm
  · intro e
    obtain ⟨es, c, hb, _⟩ := h.own
    rcases h.row.2 with ⟨e1, _⟩ | ⟨g', cap, cur, e1, _, hg, _⟩
    · rw [e1] at e; cases e
    · rw [e1] at e
      injection e with e
      simp only at e
      rw [e, hb] at hg; cases hg
/-- Whatever is made beside. -/
theorem NmS.below (h : NmS w g t v b cnt L1 L2 fp W) (hb : Below W.heap.size W W') : NmS w g t v b cnt L1 L2 fp W' :=
  ⟨keptN hb h.tb, keptN hb h.box, keptT h.row hb, h.own.kept (grownT_below hb none) (by simp), h.chg.trans (Chg.of_below hb), h.vne⟩
theorem NmS.cells (h : NmS w g t v b cnt L1 L2 fp W) : (W.cell? ⟨g, 0, none⟩ = some (.int .i64 (cnt : Int)) ∧ W.frozen? ⟨g, 0, none⟩ = false) ∧ (W.cell? ⟨g, 1, none⟩ = some v ∧ W.frozen? ⟨g, 1, none⟩ = false) := by
  obtain ⟨⟨d0, d1, d2, d3, d4, d5⟩, z0, z1, z2, z3, z4, z5⟩ := sixT (show W.heap[g]? = some (.cells #[.int .i64 (cnt : Int), v, .int .u32 1, .int .i32 0, .int .u32 0, .map (some b)] 72 (0, 0)) from h.box)
  exact ⟨⟨d0, z0⟩, d1, z1⟩
/-- The count goes on. -/
theorem NmS.count (h : NmS w g t v b cnt L1 L2 fp W) (hg : fp g) {c : Int} {c' : Nat} (hc : c = (c' : Int)) : NmS w g t v b c' L1 L2 fp (W.setCell ⟨g, 0, none⟩ (.int .i64 c)) := by
  have hgr := grownT_set W ⟨g, 0, none⟩ (.int .i64 c)
  obtain ⟨b1, b2⟩ := h.bne
  obtain ⟨v1, v2⟩ := h.vg
  refine ⟨(Below.heap_setCell _ _ _ _ h.gne).trans h.tb, setT (cs := dagC cnt v 1 (some b)) h.box (by rw [hc]; rfl), h.row.kept hgr (.inr v1), h.own.setCell b2 _, h.chg.trans ⟨rfl, rfl, rfl, hgr.size, fun k hk hf => Below.heap_setCell _ _ _ _ (fun e => hf (.inl e)), fun k hk => .inl hk⟩, h.vne⟩
/-- The row, one longer. -/
theorem NmS.push {w6 : World} {gg k cap cv : Nat} {pv : Option Addr} {o : Obj} (h : NmS w g t (.slice pv k cv) b cnt L1 L2 fp W) (hn : L1.length = k)
    (hown : w6.ownsRow 0 33 5 (.slice (some ⟨gg, 0, none⟩) (k + 1) cap) (k + 1) (trmsC L1 ++ trmC t)) (hgrow : ((W.alloc o).drew).grownBy w6 (Value.slice pv k cv).ownBlock) (hat : (Value.slice pv k cv).ownBlock = some gg ∨ gg = W.heap.size + 1) :
    NmS w g t (.slice (some ⟨gg, 0, none⟩) (k + 1) cap) b cnt (L1 ++ [t]) L2 fp (w6.setCell ⟨g, 1, none⟩ (.slice (some ⟨gg, 0, none⟩) (k + 1) cap)) := by
  obtain ⟨b1, b2⟩ := h.bne
  obtain ⟨v1, v2⟩ := h.vg
  have hba := ((Below.refl _ W).alloc (Nat.le_refl _) o).drew
  have hsz : W.heap.size + 1 ≤ w6.heap.size := by have := hgrow.size; rwa [show ((W.alloc o).drew).heap.size = W.heap.size + 1 from World.size_alloc _ _] at this
  have hk : ∀ j, j < W.heap.size → (Value.slice pv k cv).ownBlock ≠ some j → w6.heap[j]? = W.heap[j]? := fun j hj hv =>
    (hgrow.block j (by show j < (W.alloc o).heap.size; rw [World.size_alloc]; omega) (fun e => hv e.symm)).trans (hba.block j hj)
  have hlt := (Array.getElem?_eq_some_iff.1 h.tb).1
  have hlg := (Array.getElem?_eq_some_iff.1 h.box).1
  have hlb := h.own.lt
  have tb6 := (hk _ hlt h.vne).trans h.tb
  have box6 := (hk _ hlg v1).trans h.box
  have hs := grownT_set w6 ⟨g, 1, none⟩ (.slice (some ⟨gg, 0, none⟩) (k + 1) cap)
  have hgg : gg ≠ w.heap.size ∧ gg ≠ g ∧ gg ≠ b := by
    rcases hat with e | e
    · exact ⟨fun c => h.vne (by rw [e, c]), fun c => v1 (by rw [e, c]), fun c => v2 (by rw [e, c])⟩
    · exact ⟨by omega, by omega, by omega⟩
  have own6 : numsAt w6 b L2.length (numD L2) := by
    obtain ⟨es, c, hb, r⟩ := h.own
    exact ⟨es, c, (hk b hlb v2).trans hb, r⟩
  refine ⟨(Below.heap_setCell _ _ _ _ h.gne).trans tb6, setT (cs := dagC cnt (.slice pv k cv) 1 (some b)) box6 rfl, ?_, own6.setCell b2 _, ?_, fun e => ?_⟩
  · have := hown.kept hs (.inr (fun e => by injection e with e; exact hgg.2.1 e))
    rw [List.length_append, List.length_singleton, hn, trmsC_app]
    exact this
  · have c2 : Chg (fun k' => k' = g ∨ (Value.slice pv k cv).ownBlock = some k' ∨ k' = b) (fun k' => k' = g ∨ (Value.slice (some ⟨gg, 0, none⟩) (k + 1) cap).ownBlock = some k' ∨ k' = b) W (w6.setCell ⟨g, 1, none⟩ (.slice (some ⟨gg, 0, none⟩) (k + 1) cap)) := by
      refine ⟨hgrow.os, hgrow.tape, hgrow.output, by have := hs.size; omega, fun j hj hf => ?_, fun j hj => ?_⟩
      · exact (Below.heap_setCell _ _ _ _ (fun e => hf (.inl e))).trans (hk j hj (fun e => hf (.inr (.inl e))))
      · rcases hj with e | e | e
        · exact .inl (.inl e)
        · injection e with e
          simp only at e
          subst e
          rcases hat with e | e
          · exact .inl (.inr (.inl e))
          · exact .inr (by omega)
        · exact .inl (.inr (.inr e))
    exact h.chg.trans c2
  · injection e with e; exact hgg.1 e
/-- The map, one longer. -/
theorem NmS.put {D : DataW Unit} {L2' : List Trm} {n : Nat} (h : NmS w g t v b cnt L1 L2 fp W) (hn : n = L2'.length) (hD : D = numD L2') (hown : numsAt W' b n D) (hg : W.grownBy W' (some b)) : NmS w g t v b cnt L1 L2' fp W' := by
  obtain ⟨b1, b2⟩ := h.bne
  obtain ⟨v1, v2⟩ := h.vg
  subst hn hD
  exact ⟨grownT_heap hg h.tb (fun e => by injection e with e; exact b1 e.symm), grownT_heap hg h.box (fun e => by injection e with e; exact b2 e.symm), h.row.kept hg (.inr v2), hown, h.chg.trans ⟨hg.os, hg.tape, hg.output, hg.size, fun k hk hf => hg.block k hk (fun e => hf (.inr (.inr (by injection e)))), fun k hk => .inl hk⟩, h.vne⟩
theorem NmS.dag {L : List Trm} (h : NmS w g t v b cnt L1 L2 fp W) (h0 : cnt = L.length) (h1 : L1 = L) (h2 : L2 = L) : ∃ fp', CDag W g L fp' ∧ Chg fp fp' w W := by
  subst h0 h1 h2
  refine ⟨_, ⟨v, 1, some b, h.box, h.row, .inr ⟨rfl, b, rfl, h.own⟩, fun k => Iff.rfl⟩, ?_⟩
  have hc := h.chg
  exact ⟨hc.os, hc.tape, hc.output, hc.size, hc.block, fun k hk => hc.grow k (hk.imp id (fun c => c.imp id (fun e => by injection e with e; exact e.symm)))⟩
/-- Behind the first call of numbers. -/
theorem NmS.start {L : List Trm} {mp : Option Nat} {w1 : World} (hfp : ∀ k, fp k ↔ k = g ∨ v.ownBlock = some k ∨ mp = some k) (hlg : g < w.heap.size) (hlv : ∀ k, v.ownBlock = some k → k < w.heap.size) (hb1 : Below w.heap.size w w1) (hsz : w1.heap.size = w.heap.size + 1)
    (htb : w1.heap[w.heap.size]? = some (.cells (termC t) 33 (0, 0))) (hrow : w1.ownsRow 0 33 5 v L.length (trmsC L)) (hmb : mp = some b ∨ w1.heap.size ≤ b) (hbox : W.heap[g]? = some (.cells (dagC L.length v 1 (some b)) 72 (0, 0))) (hbox1 : ∃ cs, w1.heap[g]? = some (.cells cs 72 (0, 0)))
    (hown : numsAt W b L.length (numD L)) (hgr : w1.grownBy W (some g)) : NmS w g t v b L.length L L fp W := by
  obtain ⟨cs, hb⟩ := hbox1
  refine ⟨grownT_heap hgr htb (fun e => by injection e; omega), hbox, hrow.kept hgr (.inr (fun e => row_boxT hrow hb (by decide) e.symm)), hown, ⟨hgr.os.trans hb1.os, hgr.tape.trans hb1.tape, hgr.output.trans hb1.output, Nat.le_trans hb1.size hgr.size, fun k hk hf => ?_, fun k hk => ?_⟩, fun e => by have := hlv _ e; omega⟩
  · exact (hgr.block k (Nat.lt_of_lt_of_le hk hb1.size) (fun e => hf ((hfp k).2 (.inl (by injection e))))).trans (hb1.block k hk)
  · rcases hk with e | e | e
    · exact .inl ((hfp k).2 (.inl e))
    · exact .inl ((hfp k).2 (.inr (.inl e)))
    · rcases hmb with h | h
      · exact .inl ((hfp k).2 (.inr (.inr (by rw [e]; exact h))))
      · exact .inr (by omega)
end
end Go.Proofs.Ythlefedljgmmfaa
namespace Go.Proofs.Ythlefedljgmmfaa
open Go.RowKit Go.Lib Go.Shelf Go.Maps Tm
set_option linter.unusedSimpArgs false
set_option linter.unusedVariables false

theorem zeroT10 (w : World) : (zeroValue 3).run Try.prog w = .ok (.int .i64 0) w := by kernel_rfl
set_option maxRecDepth 100000 in
/-- What the look-up in the map of numbers gives. -/
theorem num_look {L : List Trm} {t : Trm} {b : Nat} {W : World} (ht : WfT t) (hok : OkT L) (hl : L.length ≤ 1000) (h : numsAt W b L.length (numD L)) :
    ∃ c : Int, (Instr.lookup 70 (.map (some b)) (.agg (termC t)) true).run Try.prog W = .ok (.tuple #[.int .i64 c, .bool (decide (findT L t < L.length))]) W ∧ (findT L t < L.length → c = (findT L t : Int)) := by
  have hz : plainElem (H := Unit) Try.prog 3 (.int .i64 0) = some (.lit (.int .i64 0), []) := plainElem_int Try.underlying3 (by decide)
  obtain ⟨v, ps, hrun, hv⟩ := h.look_ok lawT10 Try.underlying70 (zeroT10 W) hz (key10 ht)
  obtain ⟨c, rfl, hc, hw⟩ := plainElem_int_inv Try.underlying3 hv
  have hwf := wf_all hok (by omega)
  rw [num_has ht L hwf] at hrun
  refine ⟨c, hrun, fun hf => ?_⟩
  have h2 := congrArg Prod.fst hc
  simp only at h2
  rw [num_at ht _ L hwf hok.once hf] at h2
  injection h2 with h2
  injection h2 with _ h2
  exact h2.symm
set_option maxRecDepth 100000 in
theorem num_store {L : List Trm} {t : Trm} {b : Nat} {W : World} {n : Int} (ht : WfT t) (hl : L.length ≤ 1000) (hn : n = (L.length : Int)) (h : numsAt W b L.length (numD L)) :
    ∃ W', (Instr.mapUpdate 70 (.map (some b)) (.agg (termC t)) (.int .i64 n)).run Try.prog W = .ok () W' ∧ numsAt W' b (L.length + 1) (numD (L ++ [t])) ∧ W.grownBy W' (some b) := by
  subst hn
  have hz : plainElem (H := Unit) Try.prog 3 (.int .i64 (L.length : Int)) = some (.lit (.int .i64 (L.length : Int)), []) := plainElem_int Try.underlying3 (WalkArith.wf_i64 (n := (L.length : Int)) (by omega))
  obtain ⟨W', h1, h2, h3⟩ := h.update lawT10 Try.underlying70 (by unfold maxLen; omega) (key10 ht) hz
  rw [numD_snoc]
  exact ⟨W', h1, h2, h3⟩
set_option maxHeartbeats 8000000 in
set_option maxRecDepth 100000 in
theorem tnumber_any {g : Nat} {L : List Trm} {fp : Nat → Prop} (t : Trm) (ht : WfT t) (w : World) (hok : OkT L) (hl : L.length ≤ 1000) (h : CDag w g L fp) :
    Calls Try.prog 34 #[ptrV g, .agg (termC t)] w fun e w' => e = .returned (.int .i64 (findT L t : Int)) ∧ ∃ fp', CDag w' g (addT L t) fp' ∧ Chg fp fp' w w' := by
  obtain ⟨i0, hii, hz0, hz1, hz2⟩ := info_parts infoTm
  obtain ⟨v, dn, mp, hbx, hrow, hF, hfp⟩ := h
  obtain ⟨pv, cv, rfl⟩ := own_slice' hrow
  have lg := (Array.getElem?_eq_some_iff.1 hbx).1
  have hfg : fp g := (hfp g).2 (.inl rfl)
  have HOk := hideE hok
  have HT := hideE ht
  have HL := hideE hl
  -- behind the box of the term
  have b0 := ((Below.refl _ w).alloc (Nat.le_refl _) (.cells (termC t) 33)).drew
  have hs0 : (w.alloc (.cells (termC t) 33)).drew.heap.size = w.heap.size + 1 := World.size_alloc _ _
  have htb0 : (w.alloc (.cells (termC t) 33)).drew.heap[w.heap.size]? = some (.cells (termC t) 33 (0, 0)) := heap_alloc_new w _
  have hbx0 := keptN b0 hbx
  have hrow0 := keptT hrow b0
  have hF0 : Found (w.alloc (.cells (termC t) 33)).drew L dn mp := by
    rcases hF with ⟨e1, e2, e3⟩ | ⟨e1, b, e2, ho⟩
    · exact .inl ⟨e1, e2, e3⟩
    · exact .inr ⟨e1, b, e2, ho.kept (grownT_below b0 none) (by simp)⟩
  have hN := tnumbers_any _ hbx0 hF0
  have HN : Hid (Calls Try.prog 47 #[ptrV g] (w.alloc (.cells (termC t) 33)).drew fun e W => ∃ b, e = .returned (.map (some b)) ∧ NmS w g t (.slice pv L.length cv) b L.length L L fp W) := by
    refine hN.mono ?_
    rintro e W ⟨b, rfl, h1, h2, h3, h4⟩
    exact ⟨b, rfl, NmS.start hfp lg (fun k hk => (hrow.lt k hk).2) b0 hs0 htb0 hrow0 h1 h2 ⟨_, hbx0⟩ h3 h4⟩
  clear hN hF0 hrow0 hbx0 htb0 hs0 b0 hF hfp hbx hrow hok ht hl lg
  have HFg := hideE hfg
  clear hfg
  obtain ⟨bb, hbb⟩ : ∃ bb, decide (findT L t < L.length) = bb := ⟨_, rfl⟩
  obtain ⟨n, hn⟩ : ∃ n, L.length = n := ⟨_, rfl⟩
  have HLk : Hid (∀ b W, numsAt W b L.length (numD L) → ∃ c : Int, (Instr.lookup 70 (.map (some b)) (.agg (termC t)) true).run Try.prog W = .ok (.tuple #[.int .i64 c, .bool bb]) W ∧ (findT L t < L.length → c = (findT L t : Int))) := by
    intro b W ho; have := num_look HT.out HOk.out HL.out ho; rwa [hbb] at this
  have HBb := hideE hbb
  clear hbb
  obtain ⟨tk, tv, tp, ta, tb⟩ := t
  simp only [ptrV, termC] at HN HLk ⊢
  have HNn := hideE hn
  rw [hn] at HN
  clear hn
  go_enter Try.func34, Try.ntmps34
  go_upto_region 1 with fail
  go_cut [5, 6] (fun s5 s6 W => ∃ (b : Nat) (c : Int), s5 = .int .i64 c ∧ s6 = .bool bb ∧ (findT L ⟨tk, tv, tp, ta, tb⟩ < L.length → c = (findT L ⟨tk, tv, tp, ta, tb⟩ : Int)) ∧ NmS w g ⟨tk, tv, tp, ta, tb⟩ (.slice pv n cv) b n L L fp W)
  case first =>
    go_region_with (go_at_call 47; refine HN.out.mono ?_; rintro e W ⟨b, rfl, h1⟩; obtain ⟨t0, t1, t2, t3, t4⟩ := fiveT h1.tb; obtain ⟨c, hrun, hc⟩ := HLk.out b W h1.own; have HC := hideE hc; have H1 := hideE h1; clear hc h1)
    all_goals
      go_wp2_with fail
      go_meet
      case rel => exact ⟨_, _, rfl, rfl, HC.out, H1.out⟩
  case rest =>
    obtain ⟨b, c, rfl, rfl, hc, h1⟩ := hcut
    clear HN HLk
    cases bb with
    | true =>
      have hlt := of_decide_eq_true HBb.out
      have HA : Hid (addT L ⟨tk, tv, tp, ta, tb⟩ = L) := by show _ = _; unfold addT; rw [if_pos hlt]
      have HC := hideE (hc hlt)
      have HD := hideE (h1.dag (L := L) HNn.out.symm rfl rfl)
      clear hc h1 hlt
      go_wp2_with fail
      go_ret
      exact ⟨by rw [HC.out]; rfl, by rw [HA.out]; exact HD.out⟩
    | false =>
      have hge := of_decide_eq_false HBb.out
      have hfn : findT L ⟨tk, tv, tp, ta, tb⟩ = n := by have := find_le L ⟨tk, tv, tp, ta, tb⟩; have := HNn.out; omega
      have HA : Hid (addT L ⟨tk, tv, tp, ta, tb⟩ = L ++ [⟨tk, tv, tp, ta, tb⟩]) := by show _ = _; unfold addT; rw [if_neg hge]
      have HFn := hideE hfn
      have hl := HL.out
      rw [HNn.out] at hl
      have HL2 := hideE hl
      clear hc hge hfn
      have H1 := hideE h1
      have H2 := hideE (h1.count HFg.out (c := (n : Int) + 1) (c' := n + 1) (by omega))
      have hAdd := addO ⟨g, 0, none⟩ (n : Int) (by omega) wc h1.cells.1.1 h1.cells.1.2
      have HAdd := hideE hAdd
      have hwk : IntKind.i64.wrap ((n : Int) + 1 - 1) = (n : Int) := by rw [show (n : Int) + 1 - 1 = (n : Int) by omega]; exact wrE (by omega) (by omega)
      have hwk2 : IntKind.i64.wrap (n : Int) = (n : Int) := wrE (by omega) (by omega)
      clear h1 hAdd hl
      go_upto_region 5 with (go_at_call 60; refine HAdd.out.mono ?_; rintro e w2 ⟨rfl, rfl⟩)
      refine gen_world (NmS w g ⟨tk, tv, tp, ta, tb⟩ (.slice pv n cv) b (n + 1) L L fp) H2.out ?_
      clear H1 H2 HAdd
      intro w3 h3
      obtain ⟨t0, t1, t2, t3, t4⟩ := fiveT h3.tb
      obtain ⟨⟨c0, f0⟩, c1, f1⟩ := h3.cells
      have hnf : (some g : Option Nat) ≠ (Value.slice pv n cv).ownBlock := fun e => h3.vg.1 e.symm
      have hrw := h3.row
      rw [HNn.out] at hrw
      have HRw := hideE hrw
      have HNf := hideE hnf
      have lgr := (Array.getElem?_eq_some_iff.1 h3.box).1
      have ltb := (Array.getElem?_eq_some_iff.1 h3.tb).1
      have hl := HL2.out
      have h63 : n + 1 ≤ maxLen := by unfold maxLen; omega
      have hby : (n + 1) * 40 ≤ 140737488355328 := by omega
      have hal : ∀ o, ((w3.alloc o).drew.cell? ⟨g, 1, none⟩ = some (.slice pv n cv) ∧ (w3.alloc o).drew.frozen? ⟨g, 1, none⟩ = false) := fun o => by
        have h1 := keptN (((Below.refl _ w3).alloc (Nat.le_refl _) o).drew) h3.box
        exact ⟨by simp [World.cell?, h1, dagC], by simp [World.frozen?, h1]⟩
      have HAl := hideE hal
      have H3 := hideE h3
      clear hal hnf hrw h3
      go_wp2_with fail
      go_region_law ((refine step_append_lies _ (by rfl) _ _ _ (by rfl) 0 33 i0 _ 5 40 Try.underlying28 hii hz0 hz1 hz2 rfl (by omega) (.slice pv n cv) n (trmsC L) (by rfl) ((HRw.out.alloc _).drew) ⟨w3.heap.size, 0, none⟩ 1 1 [.int .i64 tk, .int .u32 (tv.toNat : Int), .int .i64 tp, .int .i64 ta, .int .i64 tb] (by rfl) (by rfl) (World.news_of_block (cs := #[.int .i64 tk, .int .u32 (tv.toNat : Int), .int .i64 tp, .int .i64 ta, .int .i64 tb]) (t := 33) (fr := (0, 0)) (heap_alloc_new w3 _)) (by simp [Value.oneCell']) (by omega) h63 hby (Nat.zero_le _) (w3.heap.size + 1) (by simp) ?_; intro gg cap w6 hown6 hgrow hat hlt6; have q6 := (hgrow.cell_far _ (by simp; omega) HNf.out).trans (HAl.out _).1; have f6 := (hgrow.frozen_far _ (by simp; omega) HNf.out).trans (HAl.out _).2))
      all_goals
        have h4 := NmS.push (t := ⟨tk, tv, tp, ta, tb⟩) H3.out HNn.out hown6 hgrow hat
        refine gen_world (NmS w g ⟨tk, tv, tp, ta, tb⟩ (.slice (some ⟨gg, 0, none⟩) (n + 1) cap) b (n + 1) (L ++ [⟨tk, tv, tp, ta, tb⟩]) L fp) h4 ?_
        clear h4 hown6 hgrow hat hlt6 q6 f6 c0 f0 c1 f1 t0 t1 t2 t3 t4 HRw HNf HAl H3 lgr ltb
        intro w7 h4
        obtain ⟨t0, t1, t2, t3, t4⟩ := fiveT h4.tb
        have hnd := numbers_done w7.drew h4.box
        have HNd : Hid (Calls Try.prog 47 #[.pointer (some ⟨g, 0, none⟩)] w7.drew fun e W => e = .returned (.map (some b)) ∧ NmS w g ⟨tk, tv, tp, ta, tb⟩ (.slice (some ⟨gg, 0, none⟩) (n + 1) cap) b (n + 1) (L ++ [⟨tk, tv, tp, ta, tb⟩]) L fp W) := by
          refine hnd.mono ?_
          rintro e W ⟨rfl, hb⟩
          exact ⟨rfl, (h4.below (Below.refl _ w7).drew).below hb⟩
        have HSt : Hid (∀ W, numsAt W b L.length (numD L) → ∃ W', (Instr.mapUpdate 70 (.map (some b)) (.agg #[.int .i64 tk, .int .u32 (tv.toNat : Int), .int .i64 tp, .int .i64 ta, .int .i64 tb]) (.int .i64 (n : Int))).run Try.prog W = .ok () W' ∧ numsAt W' b (L.length + 1) (numD (L ++ [⟨tk, tv, tp, ta, tb⟩])) ∧ W.grownBy W' (some b)) := fun W hW => num_store HT.out HL.out (by rw [HNn.out]) hW
        clear hnd h4
        go_wp2_with fail
        go_region_with (go_at_call 47; refine HNd.out.mono ?_; rintro e W ⟨rfl, h5⟩; obtain ⟨y0, y1, y2, y3, y4⟩ := fiveT h5.tb; obtain ⟨W9, hrun, ho, hgr⟩ := HSt.out W h5.own; have H6 := hideE (NmS.put (L2' := L ++ [⟨tk, tv, tp, ta, tb⟩]) h5 (by simp) rfl ho hgr); clear h5 ho hgr)
        all_goals
          go_wp2_with fail
          go_ret
          exact ⟨by rw [HFn.out]; rfl, by rw [HA.out]; exact H6.out.dag (by rw [List.length_append, HNn.out]; rfl) rfl rfl⟩
end Go.Proofs.Ythlefedljgmmfaa
namespace Go.Proofs.Ythlefedljgmmfaa
open Go.RowKit Go.Lib Go.Shelf Tm
set_option linter.unusedSimpArgs false
set_option linter.unusedVariables false

section
variable {W W' : World} {g : Nat} {L : List Trm} {fp : Nat → Prop}
theorem CDag.lt (h : CDag W g L fp) : ∀ k, fp k → k < W.heap.size := fun k hk => by
  obtain ⟨v, dn, mp, h1, h2, h3, h4⟩ := h
  rcases (h4 k).1 hk with rfl | e | e
  · exact (Array.getElem?_eq_some_iff.1 h1).1
  · exact (h2.lt k e).2
  · rcases h3 with ⟨_, e2, _⟩ | ⟨_, b, e2, ho⟩
    · rw [e2] at e; cases e
    · rw [e2] at e; injection e with e; subst e; exact ho.lt
theorem CDag.keep (h : CDag W g L fp) (hs : W.heap.size ≤ W'.heap.size) (hk : ∀ k, fp k → W'.heap[k]? = W.heap[k]?) : CDag W' g L fp := by
  obtain ⟨v, dn, mp, h1, h2, h3, h4⟩ := h
  refine ⟨v, dn, mp, (hk g ((h4 g).2 (.inl rfl))).trans h1, ⟨h2.1, ?_⟩, ?_, h4⟩
  · rcases h2.2 with hn | ⟨g', cap, cur, rfl, hb, hg, rest⟩
    · exact .inl hn
    · exact .inr ⟨g', cap, cur, rfl, hb, (hk g' ((h4 g').2 (.inr (.inl rfl)))).trans hg, rest⟩
  · rcases h3 with h3 | ⟨e1, b, rfl, es, c, hb, r⟩
    · exact .inl h3
    · exact .inr ⟨e1, b, rfl, es, c, (hk b ((h4 b).2 (.inr (.inr rfl)))).trans hb, r⟩
theorem CDag.ext (h : CDag W g L fp) (hb : Below W.heap.size W W') : CDag W' g L fp := h.keep hb.size (fun k hk => hb.block k (h.lt k hk))
theorem CDag.count (h : CDag W g L fp) : W.cell? ⟨g, 0, none⟩ = some (.int .i64 (L.length : Int)) := by
  obtain ⟨v, dn, mp, h1, _⟩ := h
  simp [World.cell?, h1, dagC]
end
variable {g : Nat} {L : List Trm} {fp : Nat → Prop}
set_option maxHeartbeats 1000000 in
theorem tnew_any (w : World) : Calls Try.prog 20 #[] w fun e w' => ∃ (g : Nat) (fp : Nat → Prop), e = .returned (ptrV g) ∧ CDag w' g [] fp ∧ (∀ k, fp k → w.heap.size ≤ k) ∧ Below w.heap.size w w' := by
  go_enter Try.func20, Try.ntmps20
  go_wp2_with fail
  go_ret
  refine ⟨w.heap.size, fun k => k = w.heap.size, rfl, ⟨.slice none 0 0, 0, none, heap_alloc_new w _, World.ownsRow_nil _ _ _ _, .inl ⟨rfl, rfl, rfl⟩, fun k => ?_⟩, fun k hk => by omega, (Below.refl _ w).alloc (Nat.le_refl _) _⟩
  exact ⟨.inl, fun h => h.elim id (fun e => by rcases e with e | e <;> cases e)⟩
theorem tlen_any (w : World) (h : CDag w g L fp) : Calls Try.prog 10 #[ptrV g] w fun e w' => e = .returned (.int .i64 (L.length : Int)) ∧ w' = w := by
  have hl := loadO ⟨g, 0, none⟩ _ w h.count
  have HL := hideE hl
  clear hl h
  obtain ⟨n, hn⟩ : ∃ n, L.length = n := ⟨_, rfl⟩
  rw [hn] at HL ⊢
  clear hn
  simp only [ptrV]
  go_enter Try.func10, Try.ntmps10
  go_wp2_with (go_at_call 25; refine HL.out.mono ?_; rintro e w' ⟨rfl, rfl⟩)
  go_ret
  exact ⟨rfl, rfl⟩
set_option maxHeartbeats 1000000 in
theorem thas_any (n : Int) (w : World) (h : CDag w g L fp) : Calls Try.prog 26 #[ptrV g, .int .i64 n] w fun e w' => e = .returned (.bool (hasN L n)) ∧ w' = w := by
  have HL := hideE (tlen_any w h)
  clear h
  have HD : Hid (hasN L n = decide (0 ≤ n ∧ n < L.length)) := rfl
  obtain ⟨m, hm⟩ : ∃ m, L.length = m := ⟨_, rfl⟩
  rw [hm] at HL HD
  clear hm
  simp only [ptrV] at HL ⊢
  by_cases h0 : 0 ≤ n
  · by_cases h1 : n < (m : Int)
    · have HX : Hid (hasN L n = true) := by show _ = _; rw [HD.out]; exact decide_eq_true ⟨h0, h1⟩
      go_enter Try.func26, Try.ntmps26
      go_wp2_with (go_at_call 10; refine HL.out.mono ?_; rintro e w' ⟨rfl, rfl⟩)
      go_ret
      exact ⟨by rw [HX.out]; rfl, rfl⟩
    · have HX : Hid (hasN L n = false) := by show _ = _; rw [HD.out]; exact decide_eq_false (fun c => h1 c.2)
      go_enter Try.func26, Try.ntmps26
      go_wp2_with (go_at_call 10; refine HL.out.mono ?_; rintro e w' ⟨rfl, rfl⟩)
      go_ret
      exact ⟨retb ((decide_eq_false (by omega)).trans HX.out.symm), rfl⟩
  · have HX : Hid (hasN L n = false) := by show _ = _; rw [HD.out]; exact decide_eq_false (fun c => h0 c.1)
    go_enter Try.func26, Try.ntmps26
    go_wp2_with fail
    go_ret
    exact ⟨by rw [HX.out]; rfl, rfl⟩
theorem tnum_at (k : Int) (v : BitVec 32) (op a b : Int) (hw : WfT ⟨k, v, op, a, b⟩) (w : World) (hok : OkT L) (hl : L.length ≤ 1000) (h : CDag w g L fp) :
    Calls Try.prog 34 #[.pointer (some ⟨g, 0, none⟩), .agg #[.int .i64 k, .int .u32 (v.toNat : Int), .int .i64 op, .int .i64 a, .int .i64 b]] w fun e w' => e = .returned (.int .i64 (findT L ⟨k, v, op, a, b⟩ : Int)) ∧ ∃ fp', CDag w' g (addT L ⟨k, v, op, a, b⟩) fp' ∧ Chg fp fp' w w' := tnumber_any ⟨k, v, op, a, b⟩ hw w hok hl h
set_option maxHeartbeats 1000000 in
theorem tconst_any (v : BitVec 32) (w : World) (hok : OkT L) (hl : L.length ≤ 1000) (h : CDag w g L fp) :
    Calls Try.prog 17 #[ptrV g, .int .u32 (v.toNat : Int)] w fun e w' => e = .returned (.int .i64 (findT L (constT v) : Int)) ∧ ∃ fp', CDag w' g (addT L (constT v)) fp' ∧ Chg fp fp' w w' := by
  have HA := hideE (tnum_at 0 v 0 0 0 (wfT_mk (by omega) (by omega) (by omega) (by omega)) w hok hl h)
  have e : (⟨0, v, 0, 0, 0⟩ : Trm) = constT v := rfl
  rw [e] at HA
  clear h e
  simp only [ptrV]
  go_enter Try.func17, Try.ntmps17
  go_wp2_with (go_at_call 34; refine HA.out.mono ?_; rintro e w' ⟨rfl, h2⟩; have H2 := hideE h2; clear h2)
  go_ret
  exact ⟨rfl, H2.out⟩
set_option maxHeartbeats 2000000 in
theorem tvar_any (r : Int) (hr : -9223372036854775808 ≤ r ∧ r ≤ 9223372036854775807) (w : World) (hok : OkT L) (hl : L.length ≤ 1000) (h : CDag w g L fp) :
    Calls Try.prog 18 #[ptrV g, .int .i64 r] w fun e w' => e = .returned (.tuple #[.int .i64 (regN L r : Int), .int .i64 (regE r : Int)]) ∧ ∃ fp', CDag w' g (regL L r) fp' ∧ Chg fp fp' w w' := by
  have HH := hideE h
  simp only [ptrV]
  by_cases h0 : r < 0
  · have he : regE r = 1 := by unfold regE; rw [if_pos (.inl h0)]
    have HN : Hid (regN L r = 0 ∧ regL L r = L) := by show _ ∧ _; unfold regN regL; rw [he]; exact ⟨rfl, rfl⟩
    have HE := hideE he
    clear h he
    go_enter Try.func18, Try.ntmps18
    go_wp2_with fail
    go_ret2
    exact ⟨by rw [HN.out.1, HE.out]; rfl, fp, by rw [HN.out.2]; exact HH.out, chg_refl _ _⟩
  · have h0' : 0 ≤ r := by omega
    by_cases h1 : 31 < r
    · have he : regE r = 1 := by unfold regE; rw [if_pos (.inr h1)]
      have HN : Hid (regN L r = 0 ∧ regL L r = L) := by show _ ∧ _; unfold regN regL; rw [he]; exact ⟨rfl, rfl⟩
      have HE := hideE he
      clear h he
      go_enter Try.func18, Try.ntmps18
      go_wp2_with fail
      go_ret2
      exact ⟨by rw [HN.out.1, HE.out]; rfl, fp, by rw [HN.out.2]; exact HH.out, chg_refl _ _⟩
    · have h1' : r ≤ 31 := by omega
      have he : regE r = 0 := by unfold regE; rw [if_neg (by omega)]
      have HN : Hid (regN L r = findT L (regT r) ∧ regL L r = addT L (regT r)) := by show _ ∧ _; unfold regN regL; rw [he]; exact ⟨rfl, rfl⟩
      have HE := hideE he
      by_cases hz : r = 0
      · subst hz
        have HA := hideE (tconst_any (BitVec.ofNat 32 0) w hok hl h)
        have e : constT (BitVec.ofNat 32 0) = regT 0 := by unfold regT; rw [if_pos rfl]
        rw [e] at HA
        have HA2 : Hid (Calls Try.prog 17 #[.pointer (some ⟨g, 0, none⟩), .int .u32 0] w fun e w' => e = .returned (.int .i64 (findT L (regT 0) : Int)) ∧ ∃ fp', CDag w' g (addT L (regT 0)) fp' ∧ Chg fp fp' w w') := HA
        clear h e he HA
        go_enter Try.func18, Try.ntmps18
        go_wp2_with (go_at_call 17; refine HA2.out.mono ?_; rintro e w' ⟨rfl, h2⟩; have H2 := hideE h2; clear h2)
        go_ret2
        rw [HN.out.1, HN.out.2, HE.out]
        exact ⟨rfl, H2.out⟩
      · have hz2 : (r == 0) = false := beq_eq_false_iff_ne.2 hz
        obtain ⟨d, rfl⟩ := Int.eq_ofNat_of_zero_le h0'
        have hm : (d : Int) % 4294967296 = (d : Int) := by omega
        have HA := hideE (tnum_at 1 (BitVec.ofNat 32 d) 0 0 0 (wfT_mk (by omega) (by omega) (by omega) (by omega)) w hok hl h)
        have e1 : ((BitVec.ofNat 32 d).toNat : Int) = (d : Int) := by rw [BitVec.toNat_ofNat, Nat.mod_eq_of_lt (by omega)]
        have e2 : (⟨1, BitVec.ofNat 32 d, 0, 0, 0⟩ : Trm) = regT (d : Int) := (reg_nat (by omega) (by omega)).symm
        rw [e1, e2] at HA
        clear h e1 e2 he hz
        go_enter Try.func18, Try.ntmps18
        go_wp2_with (go_at_call 34; refine HA.out.mono ?_; rintro e w' ⟨rfl, h2⟩; have H2 := hideE h2; clear h2)
        go_ret2
        rw [HN.out.1, HN.out.2, HE.out]
        exact ⟨rfl, H2.out⟩
set_option maxHeartbeats 4000000 in
theorem top_any (op a b : Int) (ho : -9223372036854775808 ≤ op ∧ op ≤ 9223372036854775807) (w : World) (hok : OkT L) (hl : L.length ≤ 1000) (h : CDag w g L fp) :
    Calls Try.prog 19 #[ptrV g, .int .i64 op, .int .i64 a, .int .i64 b] w fun e w' => e = .returned (.tuple #[.int .i64 (opN L op a b : Int), .int .i64 (opE L op a b : Int)]) ∧ ∃ fp', CDag w' g (opL L op a b) fp' ∧ Chg fp fp' w w' := by
  have HH := hideE h
  have HA := hideE (thas_any a w h)
  have HB := hideE (thas_any b w h)
  have hdef : ∀ n : Int, hasN L n = decide (0 ≤ n ∧ n < L.length) := fun _ => rfl
  simp only [ptrV] at HA HB ⊢
  by_cases ha : 0 ≤ a ∧ a < L.length
  · rw [show hasN L a = true from (hdef a).trans (decide_eq_true ha)] at HA
    by_cases hb : 0 ≤ b ∧ b < L.length
    · rw [show hasN L b = true from (hdef b).trans (decide_eq_true hb)] at HB
      have hdo := do_any op (BitVec.ofNat 32 0) (BitVec.ofNat 32 0) w
      have hdo2 : Calls Try.prog 29 #[.int .i64 op, .int .u32 0, .int .u32 0] w fun e w' => e = .returned (.tuple #[.int .u32 ((Wd.run op (BitVec.ofNat 32 0) (BitVec.ofNat 32 0)).toNat : Int), .int .i64 (Wd.err op)]) ∧ w' = w := hdo
      obtain ⟨z, hz⟩ : ∃ z, (Wd.run op (BitVec.ofNat 32 0) (BitVec.ofNat 32 0)).toNat = z := ⟨_, rfl⟩
      rw [hz] at hdo2
      by_cases hk : 27 ≤ op ∧ op ≤ 44
      · have he : Wd.err op = 0 := by unfold Wd.err Wd.known; rw [decide_eq_true hk]; rfl
        have hE0 : opE L op a b = 0 := by unfold opE; rw [if_neg (by omega), if_neg (by omega)]
        have HN : Hid (opN L op a b = findT L (opT op a b) ∧ opL L op a b = addT L (opT op a b)) := by show _ ∧ _; unfold opN opL; rw [hE0]; exact ⟨rfl, rfl⟩
        rw [he] at hdo2
        have HE := hideE hE0
        have HD := hideE hdo2
        have HM := hideE (tnum_at 2 (BitVec.ofNat 32 0) op a b (wfT_mk (by omega) (by omega) (by omega) (by omega)) w hok hl h)
        have HM2 : Hid (Calls Try.prog 34 #[.pointer (some ⟨g, 0, none⟩), .agg #[.int .i64 2, .int .u32 0, .int .i64 op, .int .i64 a, .int .i64 b]] w fun e w' => e = .returned (.int .i64 (findT L (opT op a b) : Int)) ∧ ∃ fp', CDag w' g (addT L (opT op a b)) fp' ∧ Chg fp fp' w w') := HM
        clear h hdo hdo2 hz he hE0 hk HM hok hl ho ha hb hdef
        go_enter Try.func19, Try.ntmps19
        go_wp2_with (first
          | (go_at_call 26; first | (refine HA.out.mono ?_; rintro e w1 ⟨rfl, rfl⟩; clear HA) | (refine HB.out.mono ?_; rintro e w1 ⟨rfl, rfl⟩; clear HB))
          | (go_at_call 29; refine HD.out.mono ?_; rintro e w1 ⟨rfl, rfl⟩)
          | (go_at_call 34; refine HM2.out.mono ?_; rintro e w2 ⟨rfl, h2⟩; have H2 := hideE h2; clear h2))
        go_ret2
        rw [HN.out.1, HN.out.2, HE.out]
        exact ⟨rfl, H2.out⟩
      · have he : Wd.err op = 1 := by unfold Wd.err Wd.known; rw [decide_eq_false hk]; rfl
        have hE0 : opE L op a b = 1 := by unfold opE; rw [if_neg (by omega), if_pos (by omega)]
        have HN : Hid (opN L op a b = 0 ∧ opL L op a b = L) := by show _ ∧ _; unfold opN opL; rw [hE0]; exact ⟨rfl, rfl⟩
        rw [he] at hdo2
        have HE := hideE hE0
        have HD := hideE hdo2
        clear h hdo hdo2 hz he hE0 hk hok hl ho ha hb hdef
        go_enter Try.func19, Try.ntmps19
        go_wp2_with (first
          | (go_at_call 26; first | (refine HA.out.mono ?_; rintro e w1 ⟨rfl, rfl⟩; clear HA) | (refine HB.out.mono ?_; rintro e w1 ⟨rfl, rfl⟩; clear HB))
          | (go_at_call 29; refine HD.out.mono ?_; rintro e w1 ⟨rfl, rfl⟩))
        go_ret2
        rw [HN.out.1, HN.out.2, HE.out]
        exact ⟨rfl, fp, HH.out, chg_refl _ _⟩
    · rw [show hasN L b = false from (hdef b).trans (decide_eq_false hb)] at HB
      have hE0 : opE L op a b = 100 := by unfold opE; rw [if_pos (by omega)]
      have HN : Hid (opN L op a b = 0 ∧ opL L op a b = L) := by show _ ∧ _; unfold opN opL; rw [hE0]; exact ⟨rfl, rfl⟩
      have HE := hideE hE0
      clear h hE0 hok hl ho ha hb hdef
      go_enter Try.func19, Try.ntmps19
      go_wp2_with (go_at_call 26; first | (refine HA.out.mono ?_; rintro e w1 ⟨rfl, rfl⟩; clear HA) | (refine HB.out.mono ?_; rintro e w1 ⟨rfl, rfl⟩; clear HB))
      go_ret2
      rw [HN.out.1, HN.out.2, HE.out]
      exact ⟨rfl, fp, HH.out, chg_refl _ _⟩
  · rw [show hasN L a = false from (hdef a).trans (decide_eq_false ha)] at HA
    have hE0 : opE L op a b = 100 := by unfold opE; rw [if_pos (by omega)]
    have HN : Hid (opN L op a b = 0 ∧ opL L op a b = L) := by show _ ∧ _; unfold opN opL; rw [hE0]; exact ⟨rfl, rfl⟩
    have HE := hideE hE0
    clear h hE0 hok hl ho ha hdef HB
    go_enter Try.func19, Try.ntmps19
    go_wp2_with (go_at_call 26; refine HA.out.mono ?_; rintro e w1 ⟨rfl, rfl⟩)
    go_ret2
    rw [HN.out.1, HN.out.2, HE.out]
    exact ⟨rfl, fp, HH.out, chg_refl _ _⟩
end Go.Proofs.Ythlefedljgmmfaa
