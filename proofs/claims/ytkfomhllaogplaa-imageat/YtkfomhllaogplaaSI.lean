/-
  A memory's addresses: the keys of its map as the library's iterator gives them, collected, and sorted.
-/
import Derived.Test.YtkfomhllaogplaaMB
import Derived.Test.YtkfomhllaogplaaSH
import Derived.Sort.OwnSorted
import Derived.Sort.MapsRangeIn
import Derived.RangeFuncBox
import Derived.RangeFuncLeaves
import Derived.Shelf.Abstract
import Derived.OwnWalkIn
import Derived.TacticsInMore
import Derived.LoopNIn
import Derived.LoopIn
import Derived.Maps.AppendAt
namespace Go.Proofs.Ytkfomhllaogplaa
open Go.RowKit Go.Maps Go.Sort Go.Shelf Mm

attribute [local go_sem] Oper.semAt_some

namespace Mm
/-- What has come of a memory's addresses, and which are still to come. -/
def Got (l : Cs) (left : Lit → Bool) (ss : List Int) : Prop := ss.Nodup ∧ ∀ x, x ∈ ss ↔ ((∃ p ∈ l, p.1 = x) ∧ left (.int .u32 x) = false)
theorem has_mem (l : Cs) (x : Int) : Maps.has (D l) (.int .u32 x) = true ↔ ∃ p ∈ l, p.1 = x := by
  rw [has_D, List.any_eq_true]; simp
theorem got_start (l : Cs) : Got l (Maps.has (D l)) [] := by
  refine ⟨List.nodup_nil, fun x => ⟨fun h => by simp at h, fun ⟨h1, h2⟩ => ?_⟩⟩
  have := (has_mem l x).2 h1
  rw [h2] at this; cases this
theorem got_step {l : Cs} {left : Lit → Bool} {ss : List Int} (h : Got l left ss) {x : Int} {y : DataW Unit} (hl : left (.int .u32 x) = true) (hat : ∀ zd, (D l).atKey (.int .u32 x) zd = y) :
    Got l (fun z => left z && !z.sameKey (.int .u32 x)) (ss ++ [x]) := by
  have hh := (has_mem l x).1 (has_true_of_atKey hat)
  have hnew : x ∉ ss := fun hx => by have := ((h.2 x).1 hx).2; rw [hl] at this; cases this
  refine ⟨List.nodup_append.2 ⟨h.1, by simp, fun a ha b hb => by simp at hb; subst hb; exact fun e => hnew (e ▸ ha)⟩, fun z => ?_⟩
  rw [List.mem_append, h.2 z]
  simp only [same_u32]
  by_cases e : z = x
  · subst e
    simp only [List.mem_singleton, or_true, true_iff, beq_self_eq_true, Bool.not_true, Bool.and_false, and_true]
    exact hh
  · have e' : (z == x) = false := by simp [e]
    simp only [List.mem_singleton, e, or_false, e', Bool.not_false, Bool.and_true]
theorem keys_nodup {l : Cs} (h : Rise l) : (l.map Prod.fst).Nodup := by
  refine List.pairwise_map.2 (h.up.imp fun {p q} hlt e => ?_)
  omega
theorem got_end {l : Cs} {left : Lit → Bool} {ss : List Int} (h : Got l left ss) (hr : Rise l) (hl : ∀ k, left k = false) : ss.Perm (l.map Prod.fst) := by
  refine (List.perm_ext_iff_of_nodup h.1 (keys_nodup hr)).2 fun x => ?_
  rw [h.2 x, hl, List.mem_map]; simp
theorem sorted_keys {l : Cs} {ss : List Int} (hp : ss.Perm (l.map Prod.fst)) (hr : Rise l) : ss.mergeSort (fun x y => decide (x ≤ y)) = l.map Prod.fst := by
  have tr : ∀ a b c : Int, decide (a ≤ b) = true → decide (b ≤ c) = true → decide (a ≤ c) = true := fun a b c h1 h2 => by simp only [decide_eq_true_eq] at *; omega
  have to : ∀ a b : Int, (decide (a ≤ b) || decide (b ≤ a)) = true := fun a b => by simp only [Bool.or_eq_true, decide_eq_true_eq]; omega
  refine List.Perm.eq_of_pairwise (le := fun a b => decide (a ≤ b) = true) (fun a b _ _ h1 h2 => ?_) (List.pairwise_mergeSort tr to ss) ?_ ((List.mergeSort_perm ss _).trans hp)
  · simp only [decide_eq_true_eq] at h1 h2; omega
  · refine List.pairwise_map.2 (hr.up.imp fun {p q} hlt => ?_)
    simp only [decide_eq_true_eq]; omega
end Mm

theorem keyOf_u {key : Value} {kl : Lit} (h : keyOf Try.prog 22 key = some kl) : ∃ x : Int, key = U x ∧ kl = .int .u32 x := by
  obtain ⟨x, h1, h2, _⟩ := Maps.keyOf_int_inv Try.underlying22 h
  exact ⟨x, h1, h2⟩

set_option maxRecDepth 100000 in
set_option maxHeartbeats 1000000 in
theorem keys_run (n : Nat) (hn : 1 ≤ n) (g Bm b : Nat) (l : Cs) (hr : Rise l) (J Jx : List Int → World → Prop)
    (hY : ∀ pre x W, J pre W → pre.length < l.length → YieldAt Fence.wide (n - 1) Try.prog g #[U x] W fun e W' => (e = .returned (.bool true) ∧ J (pre ++ [x]) W' ∧ KeepsWalks W W') ∨ (e = .returned (.bool false) ∧ Jx (pre ++ [x]) W'))
    (W : World) (hJ : AbidesFrom W.heap.size J) (hm : W.cell? ⟨Bm, 0, none⟩ = some (.map (some b))) (hown : W.ownsMap Try.prog 22 (plainElem (H := Unit) Try.prog 5) b l.length (D l)) (h0 : J [] W) :
    CallsIn Fence.wide n Try.prog 56 #[.func (.yield g) #[] #[], .pointer (some ⟨Bm, 0, none⟩)] W fun e W' => (∃ v, e = .returned v) ∧
      ((∃ ss : List Int, ss.Perm (l.map Prod.fst) ∧ J ss W') ∨ (∃ pre : List Int, True ∧ Jx pre W')) := by
  refine callsIn_of_wp Try.func56 rfl trivial ?_ rfl
  simp only [Try.ntmps56, List.size_toArray, List.length_cons, List.length_nil, Nat.reduceAdd, Nat.reduceSub, Array.replicate_succ, Array.replicate_zero, List.push_toArray, List.append_toArray, List.nil_append, List.cons_append]
  gi_wp2_with (first
    | (gi_at_range; refine wpListIn_range_own _ rfl _ 79 rfl 22 5 lawU Try.underlying79 _ b l.length _ rfl hown ?_; intro w0 hrg0 hg0 hs0)
    | gi_in)
  go_frame
  gi_loopw [3] (fun _ wr => ∃ (left : Lit → Bool) (cnt : Nat) (ss : List Int), wr.ranges Try.prog 22 (plainElem (H := Unit) Try.prog 5) b W.heap.size l.length (D l) left cnt ∧ ss.length + cnt ≤ l.length ∧ Got l left ss ∧ J ss wr) (fun _ wr => wr.rangeLeft b W.heap.size)
  case atStart => exact ⟨_, _, [], hrg0, by simp [size_D], got_start l, hJ [] W w0 none h0 hg0 (fun r e => by cases e)⟩
  case round =>
    obtain ⟨left, cnt, ss, hrg, hcs, hC, hJs⟩ := hrel
    gi_wp2_with (first
      | (gi_at_next; refine wpListIn_next_ranges _ rfl _ rfl 22 lawU _ U id (fun key kl hk => by obtain ⟨x, hx, _⟩ := keyOf_u hk; exact ⟨x, hx⟩) (fun v _ _ => ⟨v, rfl⟩) b W.heap.size l.length _ _ _ rfl hrg ?_ ?_)
      | gi_in)
    · intro hc0 hl0
      gi_wp2
      go_end0
      exact ⟨⟨_, rfl⟩, .inl ⟨ss, got_end hC hr hl0, hJs⟩⟩
    · intro x c kl yd yp w2 cnt2 hkey hlk hv hat hrg2 hlt hg2 hs2 hen
      obtain ⟨x', ex, rfl⟩ := keyOf_u hkey
      obtain rfl : x = x' := by simpa [U] using ex
      have hJ2 : J ss w2 := hJ ss wr w2 (some W.heap.size) hJs hg2 (fun r e => by cases e; exact ⟨Nat.le_refl _, hrg.iter_walk⟩)
      obtain ⟨fn, tmps, assign, body, hy, hR⟩ := hY ss x w2 hJ2 (by omega)
      have hC2 := hide (got_step hC hlk hat)
      clear hs2
      gi_wp2
      refine hR.mono ?_
      rintro e W3 (⟨rfl, hJ3, hk3⟩ | ⟨rfl, hJx3⟩)
      · gi_wp2
        have hrg3 := hrg2.of_walks hk3
        go_roundw
        case rel => exact ⟨_, cnt2, ss ++ [x], hrg3, by simp; omega, hC2.out, hJ3⟩
        case measure => rw [hrg3.left_eq, hrg.left_eq]; exact hlt
      · gi_wp2
        refine bodyPost_ret (results_none rfl _ _ _) rfl ?_
        exact ⟨⟨_, rfl⟩, .inr ⟨ss ++ [x], trivial, hJx3⟩⟩

theorem keys_stop (n : Nat) (hn : 1 ≤ n) (Bm b : Nat) (l : Cs) (hr : Rise l) (w : World) (hBm : Bm < w.heap.size) (hm : w.cell? ⟨Bm, 0, none⟩ = some (.map (some b))) (hown : w.ownsMap Try.prog 22 (plainElem (H := Unit) Try.prog 5) b l.length (D l)) :
    SeqStopsK Fence.wide n Try.prog 56 #[.pointer (some ⟨Bm, 0, none⟩)] (fun x : Int => #[U x]) KeepsWalks (fun ss => ss.Perm (l.map Prod.fst)) (fun _ => True) l.length w := fun g J Jx W hW hJ _ hY h0 => by
  have hown' : W.ownsMap Try.prog 22 (plainElem (H := Unit) Try.prog 5) b l.length (D l) := by
    have hbl := hown.lt
    obtain ⟨es, clock, hb, Ft, hs, hD⟩ := hown
    exact ⟨es, clock, (hW.block b hbl).trans hb, Ft, hs, hD⟩
  exact keys_run n hn g Bm b l hr J Jx hY W hJ ((hW.cell (p := ⟨Bm, 0, none⟩) hBm).trans hm) hown' h0

theorem infoU : (Try.prog.info? 22).map (fun i => (i.zero, i.size, i.bytes)) = some (some (.int .u32 0), 1, 4) := by kernel_rfl

/-- The iterator's value over the box Bm. -/
abbrev seqV (Bm : Nat) : Value := .func (.func 56) #[] #[.pointer (some ⟨Bm, 0, none⟩)]

set_option maxRecDepth 100000 in
set_option maxHeartbeats 2000000 in
theorem append_u (Bm b : Nat) (l : Cs) (hr : Rise l) (w : World) (hBm : Bm < w.heap.size) (hm : w.cell? ⟨Bm, 0, none⟩ = some (.map (some b))) (hown : w.ownsMap Try.prog 22 (plainElem (H := Unit) Try.prog 5) b l.length (D l)) :
    Calls Try.prog 65 #[.slice none 0 0, seqV Bm] w fun e w' => ∃ (v : Value) (ss : List Int), e = .returned v ∧ ss.Perm (l.map Prod.fst) ∧ w'.ownsRow w.heap.size 22 1 v ss.length (ss.map U) ∧ (v = .slice none 0 0 ↔ ss = []) ∧ Below w.heap.size w w' := by
  have hL := hr.length
  obtain ⟨i0, hi, hz0, hz1, hz2⟩ := info_parts infoU
  refine (callsIn_wide (n := 6)).1 ?_
  refine callsIn_of_wp_marks Try.func65 rfl trivial ?_ rfl
  simp only [Try.ntmps65, List.size_toArray, List.length_cons, List.length_nil, Nat.reduceAdd, Nat.reduceSub, Array.replicate_succ, Array.replicate_zero, List.push_toArray, List.append_toArray, List.nil_append, List.cons_append]
  gi_wp2
  have bO := Boxed.new w 27 (.slice none 0 0)
  have hB0 : Below w.heap.size w (w.alloc (.cells #[.slice none 0 0] 27)) := (Below.refl _ w).alloc (Nat.le_refl _) _
  refine wpIn_rangeFunc_ownG rfl (by omega) (gf := 56) (lb := #[.pointer (some ⟨Bm, 0, none⟩)]) rfl trivial (enters_of Try.func56 (by kernel_rfl) rfl)
    (keys_stop 5 (by omega) Bm b l hr (w.alloc (.cells #[.slice none 0 0] 27)) (by simp; omega) ((hB0.cell (p := ⟨Bm, 0, none⟩) hBm).trans hm) (hown.alloc _)) walksK_t walksK_b (Below.refl _ _) (fun _ => rfl)
    (fun pre W => (∃ v, Boxed W w.heap.size 27 v ∧ W.ownsRow w.heap.size 22 1 v pre.length (pre.map U) ∧ (v = .slice none 0 0 ↔ pre = [])) ∧ Below w.heap.size w W)
    (fun _ _ _ => False)
    (OwnFrom.and (Own.from (holdsRow_own w.heap.size w.heap.size 27 22 1 (fun pre => pre.length) (fun pre => pre.map U) (fun pre v => v = .slice none 0 0 ↔ pre = [])) _) (ownFrom_below (Nat.le_refl _) (by simp)))
    (fun _ _ _ _ _ hs _ _ => hs)
    ⟨⟨_, bO, World.ownsRow_nil _ _ _ _, by simp⟩, hB0⟩
    (fun x => { tmps := #[.slice none 0 0, seqV Bm, .pointer (some ⟨w.heap.size, 0, none⟩), undef, .slice none 0 0, .int .u32 x, seqV Bm, .int .u32 x, undef, undef, undef, undef, undef], defers := [] }) ?assign ?body ?done ?stop
  case assign =>
    intro g x W K hK
    gi_wp2
    exact hK
  case body =>
    rintro g pre x W ⟨⟨v, hv, hrow, hnil⟩, hB⟩ hlt
    have hc := hv.cell
    gi_wp2_with (gi_at_builtin; refine wpListIn_append_own _ rfl _ _ 27 rfl w.heap.size 22 i0 (.int .u32 0) 1 4 Try.underlying27 hi hz0 hz1 hz2 rfl (by decide) _ _ _ rfl (hrow.alloc _) ⟨W.heap.size, 0, none⟩ 1 1 [.int .u32 x] rfl rfl (cell_one_new _ _ _) (by simp [Value.oneCell']) (by unfold maxLen; omega) (by omega) (by have := hB.size; simp; omega) ?_; intro v' w1 hown' hgrow _; obtain ⟨g', cap', rfl⟩ := ownsRow_succ hown'; obtain ⟨hv1, hv2, hr2, hk2, hb2⟩ := hv.appended (by decide) hrow hB.size (Nat.le_refl _) hown' hgrow; have hc1 := hv1.cell; have hf1 := hv1.frozen)
    exact ⟨hk2.from _, hk2.walks, ⟨_, hv2, by simpa using hr2, by simp⟩, hB.trans hb2⟩
  case done =>
    rintro Dd ys W hD hS ⟨⟨v, hv, hrow, hnil⟩, hB⟩ hK
    have hc := hv.cell
    gi_wp2
    refine ⟨by simp, .inl ⟨_, _, rfl, run_takeDeferred hK, ?_⟩⟩
    exact ⟨_, results_tmp rfl _ _ _, v, ys, rfl, hS, ownsRow_putObj hrow _ hK rfl, hnil, hB.trans (belowK_b (w := w) (Nat.le_refl _) W Dd _ _ (by simp at hD; omega) hK rfl rfl)⟩
  case stop =>
    rintro Dd c pre W _ _ h _
    exact h.elim

theorem collect_u (Bm b : Nat) (l : Cs) (hr : Rise l) (w : World) (hBm : Bm < w.heap.size) (hm : w.cell? ⟨Bm, 0, none⟩ = some (.map (some b))) (hown : w.ownsMap Try.prog 22 (plainElem (H := Unit) Try.prog 5) b l.length (D l)) :
    Calls Try.prog 54 #[seqV Bm] w fun e w' => ∃ (v : Value) (ss : List Int), e = .returned v ∧ ss.Perm (l.map Prod.fst) ∧ w'.ownsRow w.heap.size 22 1 v ss.length (ss.map U) ∧ (v = .slice none 0 0 ↔ ss = []) ∧ Below w.heap.size w w' := by
  go_enter Try.func54, Try.ntmps54
  go_wp2_with (go_at_call 65; refine (append_u Bm b l hr _ hBm hm hown).mono ?_; rintro e w' ⟨v, ss, rfl, hS, hrow, hnil, hb⟩)
  go_ret
  exact ⟨v, ss, rfl, hS, hrow, hnil, hb⟩

theorem keysOf_u (mb : Option Nat) (w : World) : Calls Try.prog 40 #[.map mb] w fun e w' => e = .returned (seqV w.heap.size) ∧ w' = w.alloc (.cells #[.map mb] 79) := by
  go_enter Try.func40, Try.ntmps40
  go_wp2
  go_ret
  exact ⟨rfl, rfl⟩

/-! ### of no words -/
theorem insertion_nil (w : World) : Calls Try.prog 70 #[.slice none 0 0, .int .i64 0, .int .i64 0] w fun e w' => e = .returned (.tuple #[]) ∧ w' = w := by
  go_enter Try.func70, Try.ntmps70
  go_wp2
  go_loopw [6] (fun u W => u = .int .i64 1 ∧ W = w) (fun _ _ => 0)
  case atStart => exact ⟨rfl, rfl⟩
  case round =>
    obtain ⟨rfl, rfl⟩ := hrel
    go_wp2
    go_end0
    exact ⟨rfl, rfl⟩
theorem pdq_nil (w : World) : Calls Try.prog 66 #[.slice none 0 0, .int .i64 0, .int .i64 0, .int .i64 0] w fun e w' => e = .returned (.tuple #[]) ∧ w' = w := by
  go_enter Try.func66, Try.ntmps66
  go_wp2
  go_loopw [1, 2] (fun u v W => u = .int .i64 0 ∧ v = .int .i64 0 ∧ W = w) (fun _ _ _ => 0)
  case atStart => exact ⟨rfl, rfl, rfl⟩
  case round =>
    obtain ⟨rfl, rfl, rfl⟩ := hrel
    go_wp2_with (go_at_call 70; refine (insertion_nil _).mono ?_; rintro e w' ⟨rfl, rfl⟩)
    (try simp only [Exit.inBlock, Exit.then]); refine bodyPost_ret (results_none rfl _ _ _) rfl ?_
    exact ⟨rfl, rfl⟩
theorem sort_nil (w : World) : Calls Try.prog 55 #[.slice none 0 0] w fun e w' => e = .returned (.tuple #[]) ∧ w' = w := by
  go_enter Try.func55, Try.ntmps55
  go_wp2_with (first
    | (go_at_call 67; refine (len_u 0 (by omega) _).mono ?_; rintro e w' ⟨rfl, rfl⟩)
    | (go_at_call 66; refine (pdq_nil _).mono ?_; rintro e w' ⟨rfl, rfl⟩))
  go_end0
  exact ⟨rfl, rfl⟩

/-! ### behind the sort -/
theorem holds_block {w : World} {g : Nat} {cur : Array Value} {e : TypeId} {ss : List Int} (hb : w.heap[g]? = some (.cells cur e (0, 0))) (ht : cur.toList.take ss.length = ss.map U) : Holds U w g 0 ss.toArray := by
  intro j hj
  have hj' : j < ss.length := by simpa using hj
  refine ⟨?_, by simp [World.frozen?, hb]⟩
  have h1 : (cur.toList.take ss.length)[j]? = (ss.map U)[j]? := by rw [ht]
  rw [List.getElem?_take_of_lt hj'] at h1
  simp only [World.cell?, hb, Nat.zero_add]
  simp only [Option.isSome_none, Bool.false_eq_true, if_false]
  rw [← Array.getElem?_toList, h1]
  simp [hj']
theorem heap_put {w : World} {g n : Nat} {os : Array Obj} {cur : Array Value} {e : TypeId} {fr : Nat × Nat} (d : Array Int) (hb : w.heap[g]? = some (.cells cur e fr)) :
    (grow (putRow U (Sort.ahead w n) g 0 d) os).heap[g]? = some (.cells (putCells U 0 d cur) e fr) := by
  have hg : g < w.heap.size := (Array.getElem?_eq_some_iff.1 hb).1
  rw [heap_grow_old _ _ (by simpa using hg)]
  simp [putRow, mapBlock, Sort.ahead, Array.getElem?_modify, hb, onCells]
theorem grown_put {w : World} {g n : Nat} {os : Array Obj} (d : Array Int) : w.grownBy (grow (putRow U (Sort.ahead w n) g 0 d) os) (some g) := by
  refine ⟨rfl, rfl, rfl, by simp, fun k hk hne => ?_⟩
  rw [heap_grow_old _ _ (by simpa using hk)]
  have : g ≠ k := fun e => hne (by rw [e])
  simp [putRow, mapBlock, Sort.ahead, Array.getElem?_modify, this]
theorem take_put (cur : Array Value) (ts : List Int) (h : ts.length ≤ cur.size) : (putCells U 0 ts.toArray cur).toList.take ts.length = ts.map U := by
  apply List.ext_getElem?
  intro j
  by_cases hj : j < ts.length
  · rw [List.getElem?_take_of_lt hj, Array.getElem?_toList]
    simp [putCells, hj, show j < cur.size by omega]
  · rw [List.getElem?_take_eq_none (by omega), List.getElem?_eq_none (by simp; omega)]

set_option maxHeartbeats 1000000 in
/-- slices.Sorted(maps.Keys(m)): a new slice with the addresses by rising size; nil where there is none. -/
theorem sorted_u (Bm b : Nat) (l : Cs) (hr : Rise l) (w : World) (hBm : Bm < w.heap.size) (hm : w.cell? ⟨Bm, 0, none⟩ = some (.map (some b))) (hown : w.ownsMap Try.prog 22 (plainElem (H := Unit) Try.prog 5) b l.length (D l)) :
    Calls Try.prog 39 #[seqV Bm] w fun e w' => ∃ v : Value, e = .returned v ∧ w'.ownsRow w.heap.size 22 1 v l.length (l.map fun p => U p.1) ∧ Below w.heap.size w w' := by
  have hL := hr.length
  go_enter Try.func39, Try.ntmps39
  go_wp2_with fail
  refine (collect_u Bm b l hr w hBm hm hown).mono ?_
  rintro e w1 ⟨v, ss, rfl, hS, hrow, hnil, hb⟩
  have hlen : ss.length = l.length := by have := hS.length_eq; simpa using this
  have hsorted := hide (sorted_keys hS hr)
  rcases hrow.2 with ⟨rfl, h0⟩ | ⟨g, cap, cur, rfl, hbase, hgb, h1, h2, h3, h4⟩
  · obtain rfl : ss = [] := hnil.1 rfl
    obtain rfl : l = [] := List.eq_nil_of_length_eq_zero (by simpa using hlen.symm)
    go_wp2_with (go_at_call 55; refine (sort_nil _).mono ?_; rintro e w' ⟨rfl, rfl⟩)
    go_ret
    exact ⟨_, rfl, World.ownsRow_nil _ _ _ _, hb⟩
  · have hc := sort_u g 0 cap ss w1 (holds_block hgb (by simpa using h4)) (Array.getElem?_eq_some_iff.1 hgb).1 (by omega)
    rw [hsorted.out] at hc
    have HC := hide hc
    clear hc
    have ho : ∀ n os, (grow (putRow U (Sort.ahead w1 n) g 0 (l.map Prod.fst).toArray) os).ownsRow w.heap.size 22 1 (.slice (some ⟨g, 0, none⟩) ss.length cap) l.length (l.map fun p => U p.1) := fun n os => by
      refine ⟨by simp, .inr ⟨g, cap, putCells U 0 (l.map Prod.fst).toArray cur, by rw [hlen], hbase, heap_put _ hgb, by omega, h2, by simp [putCells, h3], ?_⟩⟩
      have := take_put cur (l.map Prod.fst) (by simp; omega)
      rw [List.length_map] at this
      rw [Nat.mul_one, this, List.map_map]; rfl
    have hB : ∀ n os, Below w.heap.size w (grow (putRow U (Sort.ahead w1 n) g 0 (l.map Prod.fst).toArray) os) := fun n os => hb.grown (grown_put _) hb.size (fun k e => by cases e; exact hbase)
    have HO := hide ho
    have HB := hide hB
    clear ho hB hlen h4 h3 hgb hsorted
    go_wp2_with (go_at_call 55; refine HC.out.mono ?_; rintro e w' ⟨rfl, n, os, rfl⟩)
    go_ret
    exact ⟨_, rfl, HO.out n os, HB.out n os⟩
end Go.Proofs.Ytkfomhllaogplaa
