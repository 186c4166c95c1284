/-
  The document's terms in memory; contracts of its New, add, Const, Var, Op.
  Contracts of the document's layer 10: Const, Var, Op.
-/
import Derived.Deep.QuietTactic
import Derived.BigQuiet
import Derived.Deep.RegionLaw
import Derived.Deep.AppendLies
import Derived.Deep.LoopGhost
import Derived.Deep.DeepCutAuto
import Derived.Deep.CutRange
import Derived.Test.YthlefedljgmmfaaZC1
import Derived.Test.YthlefedljgmmfaaZW1
import Derived.Test.YthlefedljgmmfaaZq
namespace Go.Proofs.Ythlefedljgmmfaa
open Go.RowKit Go.Lib Tm
set_option linter.unusedSimpArgs false
set_option linter.unusedVariables false

def trmC (t : Trm) : List Value := [.int .i64 t.kind, .int .u32 (t.v.toNat : Int), .int .i64 t.op, .int .i64 t.a, .int .i64 t.b]
def trmsC (L : List Trm) : List Value := L.flatMap trmC
theorem trmsC_cons (t : Trm) (L : List Trm) : trmsC (t :: L) = trmC t ++ trmsC L := rfl
theorem trmsC_app (L R : List Trm) : trmsC (L ++ R) = trmsC L ++ trmsC R := by unfold trmsC; rw [List.flatMap_append]
theorem trmC_len (t : Trm) : (trmC t).length = 5 := rfl
theorem trmsC_len (L : List Trm) : (trmsC L).length = L.length * 5 := by
  induction L with
  | nil => rfl
  | cons t L ih => rw [trmsC_cons, List.length_append, ih, trmC_len, List.length_cons]; omega
theorem trmsC_get (L : List Trm) {k j : Nat} {t : Trm} (h : L[k]? = some t) (hj : j < 5) : (trmsC L)[k * 5 + j]? = (trmC t)[j]? := by
  induction L generalizing k with
  | nil => simp at h
  | cons a L ih =>
    rw [trmsC_cons]
    cases k with
    | zero =>
      simp at h; subst h
      rw [Nat.zero_mul, Nat.zero_add, List.getElem?_append_left (by rw [trmC_len]; exact hj)]
    | succ k =>
      rw [List.getElem?_append_right (by rw [trmC_len]; omega), trmC_len, show (k + 1) * 5 + j - 5 = k * 5 + j by omega]
      exact ih (by simpa using h)
theorem apartT {w : World} {b b' e e' s s' n n' : Nat} {v v' : Value} {xs xs' : List Value} (h : w.ownsRow b e s v n xs) (h' : w.ownsRow b' e' s' v' n' xs') (hne : e ≠ e') : v.ownBlock = none ∨ v.ownBlock ≠ v'.ownBlock := by
  rcases h.2 with ⟨rfl, _⟩ | ⟨g, cap, cur, rfl, _, hg, _⟩
  · exact .inl rfl
  · right
    rcases h'.2 with ⟨rfl, _⟩ | ⟨g', cap', cur', rfl, _, hg', _⟩
    · simp [Value.ownBlock]
    · simp only [Value.ownBlock, ne_eq, Option.some.injEq]
      rintro rfl
      rw [hg] at hg'
      injection hg' with hg'
      injection hg' with _ hg'
      exact hne hg'
theorem row_boxT {W : World} {b e s n g : Nat} {v : Value} {xs : List Value} {cs : Array Value} {t : TypeId} {fr : Nat × Nat} (h : W.ownsRow b e s v n xs) (hbx : W.heap[g]? = some (.cells cs t fr)) (hne : t ≠ e) : some g ≠ v.ownBlock := fun e2 => by
  rcases h.2 with ⟨rfl, _⟩ | ⟨g', cap, cur, rfl, _, hg, _⟩
  · cases e2
  · injection e2 with e2
    simp only at e2
    subst e2
    rw [hbx] at hg
    injection hg with hg
    injection hg with _ hg
    exact hne hg
theorem grown_belowT {W W' : World} (hb : Below W.heap.size W W') : W.grownBy W' none := ⟨hb.os, hb.tape, hb.output, hb.size, fun k hk _ => hb.block k hk⟩
theorem below_grownT {B : Nat} {W W' : World} (hb : Below B W W') (h : W.heap.size ≤ B) : W.grownBy W' none := ⟨hb.os, hb.tape, hb.output, hb.size, fun k hk _ => hb.block k (Nat.lt_of_lt_of_le hk h)⟩
theorem fiveT {W : World} {b : Nat} {a0 a1 a2 a3 a4 : Value} {t : TypeId} (h : W.heap[b]? = some (.cells #[a0, a1, a2, a3, a4] t (0, 0))) :
    W.cell? ⟨b, 0, none⟩ = some a0 ∧ W.cell? ⟨b, 1, none⟩ = some a1 ∧ W.cell? ⟨b, 2, none⟩ = some a2 ∧ W.cell? ⟨b, 3, none⟩ = some a3 ∧ W.cell? ⟨b, 4, none⟩ = some a4 := by
  simp [World.cell?, h]
theorem keptT {W W' : World} {B0 n : Nat} {t : TypeId} {k : Nat} {v : Value} {xs : List Value} (h : W.ownsRow B0 t k v n xs) (hb : Below W.heap.size W W') : W'.ownsRow B0 t k v n xs := h.kept (grown_belowT hb) (by cases v.ownBlock <;> simp)
/-- The document's terms: a box with a slice, in the blocks told. -/
def RDag (W : World) (g : Nat) (L : List Trm) (fp : Nat → Prop) : Prop := ∃ v : Value, W.heap[g]? = some (.cells #[v] 30 (0, 0)) ∧ W.ownsRow 0 33 5 v L.length (trmsC L) ∧ ∀ k, fp k ↔ k = g ∨ v.ownBlock = some k
section
variable {W W' : World} {g : Nat} {L : List Trm} {fp : Nat → Prop}
theorem RDag.lt (h : RDag W g L fp) : ∀ k, fp k → k < W.heap.size := fun k hk => by
  obtain ⟨v, h1, h2, h3⟩ := h
  rcases (h3 k).1 hk with rfl | e
  · exact (Array.getElem?_eq_some_iff.1 h1).1
  · exact (h2.lt k e).2
theorem RDag.keep (h : RDag W g L fp) (hs : W.heap.size ≤ W'.heap.size) (hk : ∀ k, fp k → W'.heap[k]? = W.heap[k]?) : RDag W' g L fp := by
  obtain ⟨v, h1, h2, h3⟩ := h
  refine ⟨v, (hk g ((h3 g).2 (.inl rfl))).trans h1, ⟨h2.1, ?_⟩, h3⟩
  rcases h2.2 with hn | ⟨g', cap, cur, rfl, hb, hg, rest⟩
  · exact .inl hn
  · exact .inr ⟨g', cap, cur, rfl, hb, (hk g' ((h3 g').2 (.inr rfl))).trans hg, rest⟩
theorem RDag.ext (h : RDag W g L fp) (hb : Below W.heap.size W W') : RDag W' g L fp := h.keep hb.size (fun k hk => hb.block k (h.lt k hk))
end
theorem Chg.of_below {fp : Nat → Prop} {W W' : World} (hb : Below W.heap.size W W') : Chg fp fp W W' := ⟨hb.os, hb.tape, hb.output, hb.size, fun k hk _ => hb.block k hk, fun k hk => .inl hk⟩
theorem infoTm : (Try.prog.info? 33).map (fun i => (i.zero, i.size, i.bytes)) = some (some (.agg #[.int .i64 0, .int .u32 0, .int .i64 0, .int .i64 0, .int .i64 0]), 5, 40) := by kernel_rfl
set_option maxHeartbeats 1000000 in
theorem rnew_any (w : World) : Calls Try.prog 22 #[] w fun e w' => ∃ (g : Nat) (fp : Nat → Prop), e = .returned (ptrV g) ∧ RDag w' g [] fp ∧ (∀ k, fp k → w.heap.size ≤ k) ∧ Below w.heap.size w w' := by
  go_enter Try.func22, Try.ntmps22
  go_wp2_with fail
  go_ret
  refine ⟨w.heap.size, fun k => k = w.heap.size, rfl, ⟨.slice none 0 0, heap_alloc_new w _, World.ownsRow_nil _ _ _ _, fun k => ?_⟩, fun k hk => by omega, (Below.refl _ w).alloc (Nat.le_refl _) _⟩
  exact ⟨.inl, fun h => h.elim id (fun e => by cases e)⟩
/-- Two terms that differ, by their first part that does. -/
theorem trm_differ {s t : Trm} (h : s ≠ t) : s.kind ≠ t.kind ∨ (s.kind = t.kind ∧ s.v ≠ t.v) ∨ (s.kind = t.kind ∧ s.v = t.v ∧ s.op ≠ t.op) ∨ (s.kind = t.kind ∧ s.v = t.v ∧ s.op = t.op ∧ s.a ≠ t.a) ∨ (s.kind = t.kind ∧ s.v = t.v ∧ s.op = t.op ∧ s.a = t.a ∧ s.b ≠ t.b) := by
  by_cases h1 : s.kind = t.kind
  · by_cases h2 : s.v = t.v
    · by_cases h3 : s.op = t.op
      · by_cases h4 : s.a = t.a
        · by_cases h5 : s.b = t.b
          · exact absurd (same_iff.1 (by unfold same; simp [h1, h2, h3, h4, h5])) h
          · exact .inr (.inr (.inr (.inr ⟨h1, h2, h3, h4, h5⟩)))
        · exact .inr (.inr (.inr (.inl ⟨h1, h2, h3, h4⟩)))
      · exact .inr (.inr (.inl ⟨h1, h2, h3⟩))
    · exact .inr (.inl ⟨h1, h2⟩)
  · exact .inl h1
theorem find_next {L : List Trm} {t s : Trm} {k : Nat} (hk : L[k]? = some s) (h : k ≤ findT L t) (hne : s ≠ t) : k + 1 ≤ findT L t := by
  by_cases e : k = findT L t
  · subst e
    have hl := (List.getElem?_eq_some_iff.1 hk).1
    have := find_get hl
    rw [hk] at this
    exact absurd (Option.some.inj this) hne
  · omega
theorem find_here {L : List Trm} {t : Trm} {k : Nat} (hk : L[k]? = some t) (h : k ≤ findT L t) : findT L t = k := by
  by_cases e : k = findT L t
  · exact e.symm
  · exact absurd rfl (find_before hk (by omega))
theorem RDag.push {w wr w6 : World} {g gg k cap cv : Nat} {pv : Option Addr} {L : List Trm} {fp : Nat → Prop} {t : Trm} {o : Obj} (hfp : ∀ j, fp j ↔ j = g ∨ (Value.slice pv k cv).ownBlock = some j) (lg : g < w.heap.size) (hb1 : Below w.heap.size w wr) (hbx : wr.heap[g]? = some (.cells #[.slice pv k cv] 30 (0, 0)))
    (hn : L.length = k) (hnf : (some g : Option Nat) ≠ (Value.slice pv k cv).ownBlock) (hown : w6.ownsRow 0 33 5 (.slice (some ⟨gg, 0, none⟩) (k + 1) cap) (k + 1) (trmsC L ++ trmC t)) (hgrow : ((wr.alloc o).drew).grownBy w6 (Value.slice pv k cv).ownBlock) (hat : (Value.slice pv k cv).ownBlock = some gg ∨ gg = wr.heap.size + 1) :
    RDag (w6.setCell ⟨g, 0, none⟩ (.slice (some ⟨gg, 0, none⟩) (k + 1) cap)) g (L ++ [t]) (fun j => j = g ∨ j = gg) ∧ Chg fp (fun j => j = g ∨ j = gg) w (w6.setCell ⟨g, 0, none⟩ (.slice (some ⟨gg, 0, none⟩) (k + 1) cap)) ∧
    (w6.setCell ⟨g, 0, none⟩ (.slice (some ⟨gg, 0, none⟩) (k + 1) cap)).cell? ⟨g, 0, none⟩ = some (.slice (some ⟨gg, 0, none⟩) (k + 1) cap) := by
  have hsz := hb1.size
  have hba := ((Below.refl _ wr).alloc (Nat.le_refl _) o).drew
  have hb6 : w6.heap[g]? = some (.cells #[.slice pv k cv] 30 (0, 0)) := (hgrow.block g (by show g < (wr.alloc o).heap.size; rw [World.size_alloc]; omega) hnf).trans (keptN hba hbx)
  have hs : w6.grownBy (w6.setCell ⟨g, 0, none⟩ (.slice (some ⟨gg, 0, none⟩) (k + 1) cap)) (some g) := ⟨rfl, rfl, rfl, by simp, fun j _ hj => Below.heap_setCell _ _ _ _ (fun e => hj (by rw [e]))⟩
  have hb7 : (w6.setCell ⟨g, 0, none⟩ (.slice (some ⟨gg, 0, none⟩) (k + 1) cap)).heap[g]? = some (.cells #[.slice (some ⟨gg, 0, none⟩) (k + 1) cap] 30 (0, 0)) := by
    have := heap_setCell_same w6 g 0 #[.slice pv k cv] 30 (.slice (some ⟨gg, 0, none⟩) (k + 1) cap) hb6
    simpa using this
  have hs6 : wr.heap.size + 1 ≤ w6.heap.size := by have := hgrow.size; rwa [show ((wr.alloc o).drew).heap.size = wr.heap.size + 1 from World.size_alloc _ _] at this
  refine ⟨⟨_, hb7, ?_, fun j => ?_⟩, ⟨hgrow.os.trans hb1.os, hgrow.tape.trans hb1.tape, hgrow.output.trans hb1.output, by have := hs.size; omega, fun j hj hf => ?_, fun j hj => ?_⟩, by simp [World.cell?, hb7]⟩
  · have hr := hown.kept hs (.inr (fun e => row_boxT hown hb6 (by decide) e.symm))
    rw [List.length_append, List.length_singleton, hn, trmsC_app]
    exact hr
  · constructor
    · rintro (h | h)
      · exact .inl h
      · exact .inr (by rw [h]; rfl)
    · rintro (h | h)
      · exact .inl h
      · exact .inr (by injection h with h; exact h.symm)
  · have hjg : j ≠ g := fun e => hf ((hfp j).2 (.inl e))
    have hjv : some j ≠ (Value.slice pv k cv).ownBlock := fun e => hf ((hfp j).2 (.inr e.symm))
    rw [Below.heap_setCell _ _ _ _ (by exact hjg), hgrow.block j (by show j < (wr.alloc o).heap.size; rw [World.size_alloc]; omega) hjv]
    exact (hba.block j (by omega)).trans (hb1.block j hj)
  · rcases hj with rfl | rfl
    · exact .inl ((hfp j).2 (.inl rfl))
    · rcases hat with h | h
      · exact .inl ((hfp j).2 (.inr h))
      · exact .inr (by omega)
set_option maxHeartbeats 8000000 in
set_option maxRecDepth 100000 in
theorem radd_any {g : Nat} {L : List Trm} {fp : Nat → Prop} (t : Trm) (w : World) (hl : L.length ≤ 1000) (h : RDag w g L fp) :
    Calls Try.prog 68 #[ptrV g, .agg (termC t)] w fun e w' => e = .returned (.int .i64 (findT L t : Int)) ∧ ∃ fp', RDag w' g (addT L t) fp' ∧ Chg fp fp' w w' := by
  obtain ⟨i0, hii, hz0, hz1, hz2⟩ := info_parts infoTm
  have HH := hideE h
  obtain ⟨v, hbx, hrow, hfp⟩ := h
  obtain ⟨pv, cv, rfl⟩ := own_slice' hrow
  obtain ⟨n, hn⟩ : ∃ n, L.length = n := ⟨_, rfl⟩
  rw [hn] at hrow hbx hl hfp
  obtain ⟨tk, tv, tp, ta, tb⟩ := t
  have HN := hideE hn
  have HBx := hideE hbx
  have HRow := hideE hrow
  have HFp := hideE hfp
  have lg := (Array.getElem?_eq_some_iff.1 hbx).1
  have b0 := (Below.refl _ w).alloc (Nat.le_refl _) (.cells #[.int .i64 tk, .int .u32 (tv.toNat : Int), .int .i64 tp, .int .i64 ta, .int .i64 tb] 33)
  have HB0 := hideE b0
  have htb := heap_alloc_new w (.cells #[.int .i64 tk, .int .u32 (tv.toNat : Int), .int .i64 tp, .int .i64 ta, .int .i64 tb] 33)
  have HTB := hideE htb
  clear hn hbx hrow hfp b0 htb
  simp only [ptrV, termC]
  go_enter Try.func68, Try.ntmps68
  go_upto_region 2 with fail
  refine gen_world (fun W => W.heap[w.heap.size]? = some (.cells #[.int .i64 tk, .int .u32 (tv.toNat : Int), .int .i64 tp, .int .i64 ta, .int .i64 tb] 33 (0, 0)) ∧ Below w.heap.size w W) ⟨HTB.out, HB0.out⟩ ?_
  rintro w1 ⟨htb, hb1⟩
  go_loopg [5] n (fun q j W => ∃ k : Nat, k + q = n ∧ j = .int .i64 (k : Int) ∧ k ≤ findT L ⟨tk, tv, tp, ta, tb⟩ ∧ W.heap[w.heap.size]? = some (.cells #[.int .i64 tk, .int .u32 (tv.toNat : Int), .int .i64 tp, .int .i64 ta, .int .i64 tb] 33 (0, 0)) ∧ Below w.heap.size w W)
  case atStart => exact ⟨0, by omega, rfl, Nat.zero_le _, htb, hb1⟩
  case round =>
    clear htb hb1
    obtain ⟨k, hkq, rfl, hkf, htb, hb1⟩ := hrel
    have hbx := (hb1.block g lg).trans HBx.out
    have c0 : wr.cell? ⟨g, 0, none⟩ = some (.slice pv n cv) := by simp [World.cell?, hbx]
    cases gk with
    | zero =>
      obtain rfl : k = n := by omega
      have hk : ¬ ((k : Int) < (k : Int)) := by omega
      have hft : findT L ⟨tk, tv, tp, ta, tb⟩ = k := by have := find_le L ⟨tk, tv, tp, ta, tb⟩; rw [HN.out] at this; omega
      have hadd : addT L ⟨tk, tv, tp, ta, tb⟩ = L ++ [⟨tk, tv, tp, ta, tb⟩] := by unfold addT; rw [if_neg (by rw [hft, HN.out]; omega)]
      obtain ⟨t0, t1, t2, t3, t4⟩ := fiveT htb
      have hrow := HRow.out.kept (below_grownT hb1 (Nat.le_refl _)) (by cases (Value.slice pv k cv).ownBlock <;> simp)
      have hnf : (some g : Option Nat) ≠ (Value.slice pv k cv).ownBlock := row_boxT hrow hbx (by decide)
      have hsz := hb1.size
      have HBx1 := hideE hbx
      have HTB1 := hideE htb
      have HNf := hideE hnf
      have HRw := hideE hrow
      have HB1 := hideE hb1
      have HAdd := hideE hadd
      have HFt := hideE hft
      have lgr : g < wr.heap.size := by omega
      have h63 : k + 1 ≤ maxLen := by unfold maxLen; omega
      have hby : (k + 1) * 40 ≤ 140737488355328 := by omega
      have hal : ∀ o, ((wr.alloc o).drew.cell? ⟨g, 0, none⟩ = some (.slice pv k cv) ∧ (wr.alloc o).drew.frozen? ⟨g, 0, none⟩ = false) := fun o => by
        have h1 := keptN (((Below.refl _ wr).alloc (Nat.le_refl _) o).drew) hbx
        exact ⟨by simp [World.cell?, h1], by simp [World.frozen?, h1]⟩
      have HAl := hideE hal
      clear hft hadd htb hrow hnf hb1 hal hbx
      go_upto_region 6 with fail
      go_wp2_with fail
      go_region_law ((refine step_append_lies _ (by rfl) _ _ _ (by rfl) 0 33 i0 _ 5 40 Try.underlying28 hii hz0 hz1 hz2 rfl (by omega) (.slice pv k cv) k (trmsC L) (by rfl) ((HRw.out.alloc _).drew) ⟨wr.heap.size, 0, none⟩ 1 1 [.int .i64 tk, .int .u32 (tv.toNat : Int), .int .i64 tp, .int .i64 ta, .int .i64 tb] (by rfl) (by rfl) (World.news_of_block (cs := #[.int .i64 tk, .int .u32 (tv.toNat : Int), .int .i64 tp, .int .i64 ta, .int .i64 tb]) (t := 33) (fr := (0, 0)) (heap_alloc_new wr _)) (by simp [Value.oneCell']) (by omega) h63 hby (Nat.zero_le _) (wr.heap.size + 1) (by simp) ?_; intro gg cap w6 hown6 hgrow hat hlt6; have q6 := (hgrow.cell_far _ (by simp; omega) HNf.out).trans (HAl.out _).1; have f6 := (hgrow.frozen_far _ (by simp; omega) HNf.out).trans (HAl.out _).2))
      all_goals
        obtain ⟨z1, z2, z3⟩ := RDag.push (o := .cells #[.int .i64 tk, .int .u32 (tv.toNat : Int), .int .i64 tp, .int .i64 ta, .int .i64 tb] 33) (t := ⟨tk, tv, tp, ta, tb⟩) HFp.out lg HB1.out HBx1.out HN.out HNf.out hown6 hgrow hat
        refine gen_world (fun W => RDag W g (L ++ [⟨tk, tv, tp, ta, tb⟩]) (fun j => j = g ∨ j = gg) ∧ Chg fp (fun j => j = g ∨ j = gg) w W ∧ W.cell? ⟨g, 0, none⟩ = some (.slice (some ⟨gg, 0, none⟩) (k + 1) cap)) ⟨z1, z2, z3⟩ ?_
        clear z1 z2 z3 hown6 hgrow hat hlt6 q6 f6 c0 t0 t1 t2 t3 t4
        rintro w7 ⟨z1, z2, z3⟩
        have Z1 := hideE z1
        have Z2 := hideE z2
        have hwk : IntKind.i64.wrap ((k : Int) + 1 - 1) = (k : Int) := by rw [show (k : Int) + 1 - 1 = (k : Int) by omega]; exact wrE (by omega) (by omega)
        have hwk2 : IntKind.i64.wrap (k : Int) = (k : Int) := wrE (by omega) (by omega)
        clear z1 z2
        go_wp2_with fail
        go_ret
        exact ⟨by rw [HFt.out]; first | rfl | simp, _, by rw [HAdd.out]; exact Z1.out, Z2.out⟩
    | succ q =>
      have hk : ((k : Int) < (n : Int)) := by omega
      have hk0 : (0 : Int) ≤ (k : Int) := by omega
      have hwk : IntKind.i64.wrap ((k : Int) + 1) = (k : Int) + 1 := wrE (by omega) (by omega)
      obtain ⟨s, hs⟩ : ∃ s, L[k]? = some s := ⟨L[k]'(by rw [HN.out]; omega), List.getElem?_eq_getElem (by rw [HN.out]; omega)⟩
      have hrow := HRow.out.kept (below_grownT hb1 (Nat.le_refl _)) (by cases (Value.slice pv n cv).ownBlock <;> simp)
      obtain ⟨gs, rfl⟩ := own_some hrow (by omega)
      have e := fun j (hj : j < 5) => (hrow.cellAt (k * 5 + j) (by omega)).trans (trmsC_get L hs hj)
      obtain ⟨t0, t1, t2, t3, t4⟩ := fiveT htb
      have e0 := e 0 (by decide)
      have e1 := e 1 (by decide)
      have e2 := e 2 (by decide)
      have e3 := e 3 (by decide)
      have e4 := e 4 (by decide)
      obtain ⟨sk, sv, sp, sa, sb⟩ := s
      simp only [Nat.add_zero, trmC, List.getElem?_cons_zero, List.getElem?_cons_succ] at e0 e1 e2 e3 e4
      have HSk := hideE hs
      have HB1 := hideE hb1
      have HTB1 := hideE htb
      have HKF := hideE hkf
      clear hs hrow e hb1 htb hbx hkf
      by_cases hst : (⟨sk, sv, sp, sa, sb⟩ : Trm) = ⟨tk, tv, tp, ta, tb⟩
      · injection hst with h1 h2 h3 h4 h5
        subst h1 h2 h3 h4 h5
        have HFt := hideE (find_here HSk.out HKF.out)
        go_wp2_with fail
        go_quiet (fail)
        go_wp2_with fail
        go_ret
        refine ⟨by rw [HFt.out]; rfl, fp, ?_, Chg.of_below ?_⟩
        · rw [add_same (List.mem_of_getElem? HSk.out)]
          exact HH.out.ext (HB1.out.trans ((drew_low wr _ wr.heap.size).mono HB1.out.size))
        · exact HB1.out.trans ((drew_low wr _ wr.heap.size).mono HB1.out.size)
      · have hd := trm_differ hst
        have HNx := hideE (find_next HSk.out HKF.out hst)
        simp only at hd
        clear hst
        have hvv : sv ≠ tv → ¬ ((sv.toNat : Int) = (tv.toNat : Int)) := fun h e => h (BitVec.eq_of_toNat_eq (by omega))
        have HVv := hideE hvv
        clear hvv
        rcases hd with hd | ⟨rfl, hd⟩ | ⟨rfl, rfl, hd⟩ | ⟨rfl, rfl, rfl, hd⟩ | ⟨rfl, rfl, rfl, rfl, hd⟩
        all_goals
          first
            | have hd2 := HVv.out hd
            | skip
          go_wp2_with fail
          go_quiet (fail)
          go_wp2_with fail
          go_roundg q
          case measure => omega
          case rel => exact ⟨k + 1, by omega, by simp, HNx.out, HTB1.out, HB1.out.trans ((drew_low wr _ wr.heap.size).mono HB1.out.size)⟩
end Go.Proofs.Ythlefedljgmmfaa
namespace Go.Proofs.Ythlefedljgmmfaa
open Go.RowKit Go.Lib Tm
set_option linter.unusedSimpArgs false
set_option linter.unusedVariables false

variable {g : Nat} {L : List Trm} {fp : Nat → Prop}
theorem radd_at (k : Int) (v : BitVec 32) (op a b : Int) (w : World) (hl : L.length ≤ 1000) (h : RDag w g L fp) :
    Calls Try.prog 68 #[.pointer (some ⟨g, 0, none⟩), .agg #[.int .i64 k, .int .u32 (v.toNat : Int), .int .i64 op, .int .i64 a, .int .i64 b]] w fun e w' => e = .returned (.int .i64 (findT L ⟨k, v, op, a, b⟩ : Int)) ∧ ∃ fp', RDag w' g (addT L ⟨k, v, op, a, b⟩) fp' ∧ Chg fp fp' w w' := radd_any ⟨k, v, op, a, b⟩ w hl h
set_option maxHeartbeats 1000000 in
theorem rconst_any (v : BitVec 32) (w : World) (hl : L.length ≤ 1000) (h : RDag w g L fp) :
    Calls Try.prog 48 #[ptrV g, .int .u32 (v.toNat : Int)] w fun e w' => e = .returned (.int .i64 (findT L (constT v) : Int)) ∧ ∃ fp', RDag w' g (addT L (constT v)) fp' ∧ Chg fp fp' w w' := by
  have HA := hideE (radd_at 0 v 0 0 0 w hl h)
  have e : (⟨0, v, 0, 0, 0⟩ : Trm) = constT v := rfl
  rw [e] at HA
  clear h e
  simp only [ptrV]
  go_enter Try.func48, Try.ntmps48
  go_wp2_with (go_at_call 68; refine HA.out.mono ?_; rintro e w' ⟨rfl, h2⟩; have H2 := hideE h2; clear h2)
  go_ret
  exact ⟨rfl, H2.out⟩
theorem chg_refl (fp : Nat → Prop) (w : World) : Chg fp fp w w := Chg.of_below (Below.refl _ _)
set_option maxHeartbeats 2000000 in
theorem rvar_any (r : Int) (hr : -9223372036854775808 ≤ r ∧ r ≤ 9223372036854775807) (w : World) (hl : L.length ≤ 1000) (h : RDag w g L fp) :
    Calls Try.prog 49 #[ptrV g, .int .i64 r] w fun e w' => e = .returned (.tuple #[.int .i64 (regN L r : Int), .int .i64 (regE r : Int)]) ∧ ∃ fp', RDag w' g (regL L r) fp' ∧ Chg fp fp' w w' := by
  have HH := hideE h
  simp only [ptrV]
  by_cases h0 : r < 0
  · have he : regE r = 1 := by unfold regE; rw [if_pos (.inl h0)]
    have HN : Hid (regN L r = 0 ∧ regL L r = L) := by show _ ∧ _; unfold regN regL; rw [he]; exact ⟨rfl, rfl⟩
    have HE := hideE he
    clear h he
    go_enter Try.func49, Try.ntmps49
    go_wp2_with fail
    go_ret2
    exact ⟨by rw [HN.out.1, HE.out]; rfl, fp, by rw [HN.out.2]; exact HH.out, chg_refl _ _⟩
  · have h0' : 0 ≤ r := by omega
    by_cases h1 : 31 < r
    · have he : regE r = 1 := by unfold regE; rw [if_pos (.inr h1)]
      have HN : Hid (regN L r = 0 ∧ regL L r = L) := by show _ ∧ _; unfold regN regL; rw [he]; exact ⟨rfl, rfl⟩
      have HE := hideE he
      clear h he
      go_enter Try.func49, Try.ntmps49
      go_wp2_with fail
      go_ret2
      exact ⟨by rw [HN.out.1, HE.out]; rfl, fp, by rw [HN.out.2]; exact HH.out, chg_refl _ _⟩
    · have h1' : r ≤ 31 := by omega
      have he : regE r = 0 := by unfold regE; rw [if_neg (by omega)]
      have HN : Hid (regN L r = findT L (regT r) ∧ regL L r = addT L (regT r)) := by show _ ∧ _; unfold regN regL; rw [he]; exact ⟨rfl, rfl⟩
      have HE := hideE he
      by_cases hz : r = 0
      · subst hz
        have HA := hideE (rconst_any (BitVec.ofNat 32 0) w hl h)
        have e : constT (BitVec.ofNat 32 0) = regT 0 := by unfold regT; rw [if_pos rfl]
        rw [e] at HA
        have HA2 : Hid (Calls Try.prog 48 #[.pointer (some ⟨g, 0, none⟩), .int .u32 0] w fun e w' => e = .returned (.int .i64 (findT L (regT 0) : Int)) ∧ ∃ fp', RDag w' g (addT L (regT 0)) fp' ∧ Chg fp fp' w w') := HA
        clear h e he HA
        go_enter Try.func49, Try.ntmps49
        go_wp2_with (go_at_call 48; refine HA2.out.mono ?_; rintro e w' ⟨rfl, h2⟩; have H2 := hideE h2; clear h2)
        go_ret2
        rw [HN.out.1, HN.out.2, HE.out]
        exact ⟨rfl, H2.out⟩
      · have hz2 : (r == 0) = false := beq_eq_false_iff_ne.2 hz
        obtain ⟨d, rfl⟩ := Int.eq_ofNat_of_zero_le h0'
        have hm : (d : Int) % 4294967296 = (d : Int) := by omega
        have HA := hideE (radd_at 1 (BitVec.ofNat 32 d) 0 0 0 w hl h)
        have e1 : ((BitVec.ofNat 32 d).toNat : Int) = (d : Int) := by rw [BitVec.toNat_ofNat, Nat.mod_eq_of_lt (by omega)]
        have e2 : (⟨1, BitVec.ofNat 32 d, 0, 0, 0⟩ : Trm) = regT (d : Int) := (reg_nat (by omega) (by omega)).symm
        rw [e1, e2] at HA
        clear h e1 e2 he hz
        go_enter Try.func49, Try.ntmps49
        go_wp2_with (go_at_call 68; refine HA.out.mono ?_; rintro e w' ⟨rfl, h2⟩; have H2 := hideE h2; clear h2)
        go_ret2
        rw [HN.out.1, HN.out.2, HE.out]
        exact ⟨rfl, H2.out⟩
theorem opE_node {L : List Trm} {op a b : Int} (h : a < 0 ∨ (L.length : Int) ≤ a ∨ b < 0 ∨ (L.length : Int) ≤ b) : opE L op a b = 100 ∧ opN L op a b = 0 ∧ opL L op a b = L := by
  have e : opE L op a b = 100 := by unfold opE; rw [if_pos h]
  unfold opN opL
  rw [e]
  exact ⟨rfl, rfl, rfl⟩
theorem opE_rest {L : List Trm} {op a b : Int} (h : ¬ (a < 0 ∨ (L.length : Int) ≤ a ∨ b < 0 ∨ (L.length : Int) ≤ b)) : (opE L op a b : Int) = Wd.err op := by
  unfold opE Wd.err Wd.known
  rw [if_neg h]
  by_cases hk : op < 27 ∨ 44 < op
  · rw [if_pos hk, decide_eq_false (by omega)]; rfl
  · rw [if_neg hk, decide_eq_true (by omega)]; rfl
set_option maxHeartbeats 4000000 in
set_option maxRecDepth 100000 in
theorem rop_any (op a b : Int) (w : World) (hl : L.length ≤ 1000) (h : RDag w g L fp) :
    Calls Try.prog 50 #[ptrV g, .int .i64 op, .int .i64 a, .int .i64 b] w fun e w' => e = .returned (.tuple #[.int .i64 (opN L op a b : Int), .int .i64 (opE L op a b : Int)]) ∧ ∃ fp', RDag w' g (opL L op a b) fp' ∧ Chg fp fp' w w' := by
  have HH := hideE h
  obtain ⟨v, hbx, hrow, hfp⟩ := h
  obtain ⟨pv, cv, rfl⟩ := own_slice' hrow
  have c0 : w.cell? ⟨g, 0, none⟩ = some (.slice pv L.length cv) := by simp [World.cell?, hbx]
  clear hbx hrow hfp
  obtain ⟨n, hn⟩ : ∃ n, L.length = n := ⟨_, rfl⟩
  have HNode := hideE (opE_node (L := L) (op := op) (a := a) (b := b))
  have HRest := hideE (opE_rest (L := L) (op := op) (a := a) (b := b))
  rw [hn] at c0 hl HNode HRest
  have HNn := hideE hn
  clear hn
  simp only [ptrV]
  by_cases ha0 : a < 0
  · have HX := hideE (HNode.out (.inl ha0))
    go_enter Try.func50, Try.ntmps50
    go_wp2_with fail
    go_ret2
    exact ⟨by rw [HX.out.1, HX.out.2.1]; rfl, fp, by rw [HX.out.2.2]; exact HH.out, chg_refl _ _⟩
  · have ha0' : 0 ≤ a := by omega
    by_cases ha1 : (n : Int) ≤ a
    · have HX := hideE (HNode.out (.inr (.inl ha1)))
      go_enter Try.func50, Try.ntmps50
      go_wp2_with fail
      go_ret2
      exact ⟨by rw [HX.out.1, HX.out.2.1]; rfl, fp, by rw [HX.out.2.2]; exact HH.out, chg_refl _ _⟩
    · have ha1' : a < (n : Int) := by omega
      by_cases hb0 : b < 0
      · have HX := hideE (HNode.out (.inr (.inr (.inl hb0))))
        go_enter Try.func50, Try.ntmps50
        go_wp2_with fail
        go_ret2
        exact ⟨by rw [HX.out.1, HX.out.2.1]; rfl, fp, by rw [HX.out.2.2]; exact HH.out, chg_refl _ _⟩
      · have hb0' : 0 ≤ b := by omega
        by_cases hb1 : (n : Int) ≤ b
        · have HX := hideE (HNode.out (.inr (.inr (.inr hb1))))
          go_enter Try.func50, Try.ntmps50
          go_wp2_with fail
          go_ret2
          exact ⟨by rw [HX.out.1, HX.out.2.1]; rfl, fp, by rw [HX.out.2.2]; exact HH.out, chg_refl _ _⟩
        · have hb1' : b < (n : Int) := by omega
          have HE := hideE (HRest.out (by omega))
          have hdo := rdo_any op (BitVec.ofNat 32 0) (BitVec.ofNat 32 0) w
          have hdo2 : Calls Try.prog 21 #[.int .i64 op, .int .u32 0, .int .u32 0] w fun e w' => e = .returned (.tuple #[.int .u32 ((Wd.run op (BitVec.ofNat 32 0) (BitVec.ofNat 32 0)).toNat : Int), .int .i64 (Wd.err op)]) ∧ Below w.heap.size w w' := hdo
          obtain ⟨z, hz⟩ : ∃ z, (Wd.run op (BitVec.ofNat 32 0) (BitVec.ofNat 32 0)).toNat = z := ⟨_, rfl⟩
          rw [hz] at hdo2
          by_cases hk : 27 ≤ op ∧ op ≤ 44
          · have he : Wd.err op = 0 := by unfold Wd.err Wd.known; rw [decide_eq_true hk]; rfl
            rw [he] at hdo2 HE
            have hE0 : opE L op a b = 0 := by have := HE.out; omega
            have HN : Hid (opN L op a b = findT L (opT op a b) ∧ opL L op a b = addT L (opT op a b)) := by show _ ∧ _; unfold opN opL; rw [hE0]; exact ⟨rfl, rfl⟩
            have HE0 := hideE hE0
            have HD := hideE hdo2
            have HA := hideE (fun (W : World) (hW : RDag W g L fp) => radd_at 2 (BitVec.ofNat 32 0) op a b W (by rw [HNn.out]; exact hl) hW)
            have HA2 : Hid (∀ W, RDag W g L fp → Calls Try.prog 68 #[.pointer (some ⟨g, 0, none⟩), .agg #[.int .i64 2, .int .u32 0, .int .i64 op, .int .i64 a, .int .i64 b]] W fun e w' => e = .returned (.int .i64 (findT L (opT op a b) : Int)) ∧ ∃ fp', RDag w' g (addT L (opT op a b)) fp' ∧ Chg fp fp' W w') := HA
            clear hdo hdo2 hz he hE0 hk HA
            go_enter Try.func50, Try.ntmps50
            go_wp2_with (first
              | (go_at_call 21; refine HD.out.mono ?_; rintro e w1 ⟨rfl, hb⟩; have HB := hideE hb; clear hb)
              | (go_at_call 68; refine (HA2.out _ (HH.out.ext HB.out)).mono ?_; rintro e w2 ⟨rfl, fp2, h2, h3⟩; have H2 := hideE h2; have H3 := hideE h3; clear h2 h3))
            go_ret2
            rw [HN.out.1, HN.out.2, HE0.out]
            exact ⟨rfl, fp2, H2.out, (Chg.of_below HB.out).trans H3.out⟩
          · have he : Wd.err op = 1 := by unfold Wd.err Wd.known; rw [decide_eq_false hk]; rfl
            rw [he] at hdo2 HE
            have hE0 : opE L op a b = 1 := by have := HE.out; omega
            have HN : Hid (opN L op a b = 0 ∧ opL L op a b = L) := by show _ ∧ _; unfold opN opL; rw [hE0]; exact ⟨rfl, rfl⟩
            have HE0 := hideE hE0
            have HD := hideE hdo2
            clear hdo hdo2 hz he hE0 hk
            go_enter Try.func50, Try.ntmps50
            go_wp2_with (go_at_call 21; refine HD.out.mono ?_; rintro e w1 ⟨rfl, hb⟩; have HB := hideE hb; clear hb)
            go_ret2
            rw [HN.out.1, HN.out.2, HE0.out]
            exact ⟨rfl, fp, HH.out.ext HB.out, Chg.of_below HB.out⟩
end Go.Proofs.Ythlefedljgmmfaa
