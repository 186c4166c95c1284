/-
  A list of blocks that wait, worked off till none is left: it comes to the least registers. No program in sight.
  What lies in memory while blocks are worked off: the flow's box, its two lists of words, its parts, and the list of those that wait.
  Contracts of package live: bit, Uses, Sets.
-/

import Derived.Test.YtcffpmicencfpabGreatZC3
import Derived.Test.YtcffpmicencfpabGreatZC8
import Derived.Test.YtcffpmicencfpabGreatZY2
import Derived.Test.YtcffpmicencfpabGreatZY3
import Derived.Test.YtcffpmicencfpabGreatZY9
set_option linter.unusedVariables false
namespace Go.Proofs.YtcffpmicencfpabGreat
namespace Lv
open Bl Ip Pm

theorem back_split (l : List Ins) (n : BitVec 32) : backB l n = backB l (BitVec.ofNat 32 0) ||| (backB l allB &&& n) := by
  induction l with
  | nil =>
    rw [back_nil, back_nil, back_nil]
    unfold evenB
    apply BitVec.eq_of_getLsbD_eq
    intro i hi
    simp only [BitVec.getLsbD_or, BitVec.getLsbD_and, BitVec.getLsbD_zero]
    cases n.getLsbD i <;> cases allB.getLsbD i <;> rfl
  | cons x l ih =>
    rw [back_cons, back_cons, back_cons, ih]
    unfold stepB
    apply BitVec.eq_of_getLsbD_eq
    intro i hi
    simp only [BitVec.getLsbD_or, BitVec.getLsbD_and, BitVec.getLsbD_not, hi, decide_true, Bool.true_and]
    cases n.getLsbD i <;> cases (backB l (BitVec.ofNat 32 0)).getLsbD i <;> cases (backB l allB).getLsbD i <;> cases (setsB x).getLsbD i <;> cases (usesB x).getLsbD i <;> rfl
def needF (F : Fw) (k : Nat) : BitVec 32 := backB (F.code k) (BitVec.ofNat 32 0)
def mostF (F : Fw) (k : Nat) : BitVec 32 := backB (F.code k) allB
theorem ahd_split (F : Fw) (A : List (BitVec 32)) (k : Nat) : ahdF F A k = needF F k ||| (mostF F k &&& behF F A k) := back_split _ _
theorem or_le {a b : BitVec 32} (h : leB a b) : a ||| b = b := by
  apply BitVec.eq_of_getLsbD_eq
  intro i hi
  rw [BitVec.getLsbD_or]
  have := h i
  cases e : a.getLsbD i with
  | false => rfl
  | true => rw [this e]; rfl
theorem le_all {a : BitVec 32} (h : a.getLsbD 0 = false) : leB a allB := fun i hi => by
  rw [all_get]
  have h1 : i < 32 := by
    by_cases e : i < 32
    · exact e
    · rw [BitVec.getLsbD_of_ge _ _ (by omega)] at hi; cases hi
  have h2 : i ≠ 0 := fun e => by subst e; rw [h] at hi; cases hi
  simp [h1, h2]
/-- What counts behind, gathered on from b. -/
def gatB (A : List (BitVec 32)) (b : BitVec 32) (N : List Nat) : BitVec 32 := N.foldl (fun m j => m ||| A.getD j (BitVec.ofNat 32 0)) b
theorem gat_or (A : List (BitVec 32)) (N : List Nat) : ∀ b, gatB A b N = b ||| orL A N := by
  unfold gatB orL
  induction N with
  | nil => intro b; simp
  | cons j N ih => intro b; rw [List.foldl_cons, List.foldl_cons, ih, ih ((BitVec.ofNat 32 0) ||| _), BitVec.zero_or, BitVec.or_assoc]
theorem gat_succ (A : List (BitVec 32)) (b : BitVec 32) (N : List Nat) {t u : Nat} (h : N[t]? = some u) : gatB A b (N.take (t + 1)) = gatB A b (N.take t) ||| A.getD u (BitVec.ofNat 32 0) := by
  unfold gatB
  rw [List.take_add_one, h, Option.toList_some, List.foldl_append]; rfl
theorem Dn.all {F : Fw} {A : List (BitVec 32)} (h : Dn F A) (k : Nat) : leB (A.getD k (BitVec.ofNat 32 0)) allB := by
  by_cases hk : k < F.n
  · exact leB_trans (h.up k hk) (le_all (back_low _ _))
  · rw [getD_none (by rw [h.len]; omega)]; exact leB_zero _
theorem Dn.orAll {F : Fw} {A : List (BitVec 32)} (h : Dn F A) (N : List Nat) : leB (orL A N) allB := by
  unfold orL
  have : ∀ b, leB b allB → leB (N.foldl (fun m j => m ||| A.getD j (BitVec.ofNat 32 0)) b) allB := by
    induction N with
    | nil => intro b hb; exact hb
    | cons j N ih =>
      intro b hb
      rw [List.foldl_cons]
      refine ih _ ?_
      have := leB_or hb (h.all j)
      rwa [or_le (leB_refl allB)] at this
  exact this _ (leB_zero _)

/-! ### who waits -/
structure Wq (n : Nat) (ws : List Bool) (wt : List Nat) : Prop where
  len : ws.length = n
  mem : ∀ k, k ∈ wt ↔ k < n ∧ ws.getD k false = true
  once : wt.Nodup
theorem setB_getD (A : List Bool) (k j : Nat) (x : Bool) : (A.set k x).getD j false = if k = j ∧ k < A.length then x else A.getD j false := by
  rw [List.getD_eq_getElem?_getD, List.getD_eq_getElem?_getD, List.getElem?_set]
  by_cases h : k = j
  · subst h
    by_cases h2 : k < A.length
    · rw [if_pos rfl, if_pos h2, if_pos ⟨rfl, h2⟩]; rfl
    · rw [if_pos rfl, if_neg h2, if_neg (fun e => h2 e.2), List.getElem?_eq_none (by omega)]
  · rw [if_neg h, if_neg (fun e => h e.1)]
theorem Wq.push {n j : Nat} {ws : List Bool} {wt : List Nat} (h : Wq n ws wt) (hj : j < n) (hw : ws.getD j false = false) : Wq n (ws.set j true) (wt ++ [j]) := by
  refine ⟨by rw [List.length_set]; exact h.len, fun k => ?_, ?_⟩
  · rw [List.mem_append, h.mem, setB_getD, List.mem_singleton, h.len]
    by_cases e : j = k
    · subst e; rw [if_pos ⟨rfl, hj⟩]; simp [hj]
    · rw [if_neg (fun c => e c.1)]
      constructor
      · rintro (h1 | h1)
        · exact h1
        · exact absurd h1.symm e
      · exact .inl
  · refine List.nodup_append.2 ⟨h.once, by simp, fun a ha b hb => ?_⟩
    rw [List.mem_singleton] at hb
    subst hb
    intro e
    subst e
    have := ((h.mem a).1 ha).2
    rw [hw] at this; cases this
theorem Wq.lt {n k : Nat} {ws : List Bool} {wt : List Nat} (h : Wq n ws (wt ++ [k])) : k < n := ((h.mem k).1 (by simp)).1
theorem Wq.pop {n k : Nat} {ws : List Bool} {wt : List Nat} (h : Wq n ws (wt ++ [k])) : Wq n (ws.set k false) wt := by
  have hk := h.lt
  obtain ⟨h1, _, h3⟩ := List.nodup_append.1 h.once
  refine ⟨by rw [List.length_set]; exact h.len, fun j => ?_, h1⟩
  rw [setB_getD, h.len]
  by_cases e : k = j
  · subst e
    rw [if_pos ⟨rfl, hk⟩]
    constructor
    · intro hm; exact absurd rfl (h3 k hm k (by simp))
    · rintro ⟨_, h4⟩; cases h4
  · rw [if_neg (fun c => e c.1), ← h.mem, List.mem_append, List.mem_singleton]
    constructor
    · exact .inl
    · rintro (h4 | h4)
      · exact h4
      · exact absurd h4.symm e
theorem Wq.few {n : Nat} {ws : List Bool} {wt : List Nat} (h : Wq n ws wt) : wt.length ≤ n := by
  have := nodup_len (l := wt) (m := List.range n) h.once (fun a ha => List.mem_range.2 ((h.mem a).1 ha).1)
  rwa [List.length_range] at this

/-! ### what is known -/
structure Fl (F : Fw) (A B : List (BitVec 32)) (ws : List Bool) (wt : List Nat) : Prop where
  dn : Dn F A
  lenB : B.length = F.n
  lowB : ∀ k, k < F.n → leB (B.getD k (BitVec.ofNat 32 0)) (behF F A k)
  base : ∀ k, k < F.n → F.loose k = true → B.getD k (BitVec.ofNat 32 0) = allB
  done : ∀ k, k < F.n → ws.getD k false = false → B.getD k (BitVec.ofNat 32 0) = behF F A k ∧ A.getD k (BitVec.ofNat 32 0) = ahdF F A k
  wq : Wq F.n ws wt
variable {F : Fw} {A B : List (BitVec 32)} {ws : List Bool} {wt : List Nat}
theorem Fl.gather (h : Fl F A B ws wt) {k : Nat} (hk : k < F.n) : gatB A (B.getD k (BitVec.ofNat 32 0)) (F.next k) = behF F A k := by
  rw [gat_or]
  cases e : F.loose k with
  | true =>
    have h1 : behF F A k = allB := by unfold behF; rw [if_pos e]
    rw [h1, h.base k hk e, BitVec.or_comm]
    exact or_le (h.dn.orAll _)
  | false =>
    have h1 : behF F A k = orL A (F.next k) := by unfold behF; rw [if_neg (by rw [e]; simp)]
    have := h.lowB k hk
    rw [h1] at this ⊢
    exact or_le this
/-- Block k is gone over, and nothing more counts ahead of it. -/
theorem Fl.still {k : Nat} (h : Fl F A B ws (wt ++ [k])) (hs : A.getD k (BitVec.ofNat 32 0) = ahdF F A k) : Fl F A (B.set k (behF F A k)) (ws.set k false) wt := by
  have hk := h.wq.lt
  refine ⟨h.dn, by rw [List.length_set]; exact h.lenB, fun j hj => ?_, fun j hj hl => ?_, fun j hj hw => ?_, h.wq.pop⟩
  · rw [set_getD]
    split
    · rename_i e; rw [e.1]; exact leB_refl _
    · exact h.lowB j hj
  · rw [set_getD]
    split
    · rename_i e; rw [e.1]; unfold behF; rw [if_pos hl]
    · exact h.base j hj hl
  · rw [set_getD, h.lenB]
    by_cases e : k = j
    · subst e; rw [if_pos ⟨rfl, hk⟩]; exact ⟨rfl, hs⟩
    · rw [if_neg (fun c => e c.1)]
      rw [setB_getD, if_neg (fun c => e c.1)] at hw
      exact h.done j hj hw
theorem beh_set {k j : Nat} {x : BitVec 32} (hn : k ∉ F.next j) : behF F (A.set k x) j = behF F A j := by
  unfold behF orL
  split
  · rfl
  · have : ∀ (N : List Nat) (b : BitVec 32), k ∉ N → N.foldl (fun m i => m ||| (A.set k x).getD i (BitVec.ofNat 32 0)) b = N.foldl (fun m i => m ||| A.getD i (BitVec.ofNat 32 0)) b := by
      intro N
      induction N with
      | nil => intro b _; rfl
      | cons i N ih =>
        intro b hN
        rw [List.foldl_cons, List.foldl_cons, set_getD, if_neg (fun c => hN (by rw [c.1]; simp))]
        exact ih _ (fun c => hN (List.mem_cons_of_mem _ c))
    exact this _ _ hn
/-- Block k is gone over, more counts ahead of it, and those ahead of it wait anew. -/
theorem Fl.more {k : Nat} {ws' : List Bool} {wt' : List Nat} (h : Fl F A B ws (wt ++ [k])) (hq : Wq F.n ws' wt') (hw : ∀ j, j < F.n → ws'.getD j false = false → (ws.set k false).getD j false = false ∧ k ∉ F.next j) :
    Fl F (A.set k (ahdF F A k)) (B.set k (behF F A k)) ws' wt' := by
  have hk := h.wq.lt
  obtain ⟨hd, hle⟩ := h.dn.set hk
  refine ⟨hd, by rw [List.length_set]; exact h.lenB, fun j hj => ?_, fun j hj hl => ?_, fun j hj hwj => ?_, hq⟩
  · rw [set_getD]
    split
    · rename_i e
      obtain ⟨e1, _⟩ := e
      subst e1
      exact beh_mono hle _
    · exact leB_trans (h.lowB j hj) (beh_mono hle j)
  · rw [set_getD]
    split
    · rename_i e; rw [e.1]; unfold behF; rw [if_pos hl]
    · exact h.base j hj hl
  · obtain ⟨h1, h2⟩ := hw j hj hwj
    have h3 := beh_set (F := F) (A := A) (x := ahdF F A k) h2
    have h4 : ahdF F (A.set k (ahdF F A k)) j = ahdF F A j := by
      show backB (F.code j) (behF F (A.set k (ahdF F A k)) j) = backB (F.code j) (behF F A j)
      rw [h3]
    rw [h3, h4, set_getD, set_getD, h.lenB, h.dn.len]
    by_cases e : k = j
    · subst e; rw [if_pos ⟨rfl, hk⟩, if_pos ⟨rfl, hk⟩]; exact ⟨rfl, rfl⟩
    · rw [if_neg (fun c => e c.1), if_neg (fun c => e c.1)]
      rw [setB_getD, if_neg (fun c => e c.1)] at h1
      exact h.done j hj h1
theorem Fl.end_ (h : Fl F A B ws []) : LeastF F A ∧ B = behL F A := by
  have hw : ∀ k, k < F.n → ws.getD k false = false := fun k hk => by
    cases e : ws.getD k false with
    | false => rfl
    | true => have := (h.wq.mem k).2 ⟨hk, e⟩; simp at this
  refine ⟨h.dn.least fun k hk => ((h.done k hk (hw k hk)).2).symm, ?_⟩
  refine list_getD_ext (by rw [h.lenB]; unfold behL; simp) fun j => ?_
  unfold behL
  rw [map_getD]
  by_cases e : j < F.n
  · rw [if_pos e]; exact (h.done j e (hw j e)).1
  · rw [if_neg e, getD_none (by rw [h.lenB]; omega)]
/-- How much is left to do. -/
def leftF (F : Fw) (A : List (BitVec 32)) (m : Nat) : Nat := (32 * F.n - popL A) * (F.n + 1) + m
theorem left_more {A' : List (BitVec 32)} {m m' : Nat} (hp : popL A < popL A') (ht : popL A' ≤ 32 * F.n) (hm : m' ≤ F.n) : leftF F A' m' < leftF F A m := by
  unfold leftF
  obtain ⟨d, hd⟩ : ∃ d, 32 * F.n - popL A = d + 1 := ⟨32 * F.n - popL A - 1, by omega⟩
  have h1 : 32 * F.n - popL A' ≤ d := by omega
  have h2 := Nat.mul_le_mul_right (F.n + 1) h1
  rw [hd, Nat.add_mul, Nat.one_mul]
  omega
theorem Fl.grows {k : Nat} (h : Fl F A B ws (wt ++ [k])) (hne : A.getD k (BitVec.ofNat 32 0) ≠ ahdF F A k) : popL A < popL (A.set k (ahdF F A k)) ∧ popL (A.set k (ahdF F A k)) ≤ 32 * F.n := by
  have hk := h.wq.lt
  obtain ⟨hd, hle⟩ := h.dn.set hk
  constructor
  · refine popL_lt (h.dn.len.trans hd.len.symm) hle fun e => hne ?_
    conv => lhs; rw [e]
    rw [set_getD, if_pos ⟨rfl, by rw [h.dn.len]; exact hk⟩]
  · have := popL_top (A.set k (ahdF F A k))
    rwa [hd.len] at this

/-! ### how it begins -/
def baseF (F : Fw) (t : Nat) : List (BitVec 32) := (List.range F.n).map fun k => if k < t ∧ F.loose k = true then allB else (BitVec.ofNat 32 0)
def restF (n t : Nat) : List Bool := (List.range n).map fun k => decide (k < t)
theorem base_len (F : Fw) (t : Nat) : (baseF F t).length = F.n := by unfold baseF; simp
theorem base_get (F : Fw) (t : Nat) {k : Nat} (hk : k < F.n) : (baseF F t).getD k (BitVec.ofNat 32 0) = if k < t ∧ F.loose k = true then allB else (BitVec.ofNat 32 0) := by
  unfold baseF; rw [map_getD, if_pos hk]
theorem base_zero (F : Fw) : baseF F 0 = List.replicate F.n (BitVec.ofNat 32 0) := by
  refine list_getD_ext (by rw [base_len]; simp) fun j => ?_
  by_cases h : j < F.n
  · rw [base_get F 0 h, if_neg (fun c => Nat.not_lt_zero _ c.1), List.getD_eq_getElem?_getD, List.getElem?_replicate, if_pos h]; rfl
  · rw [getD_none (by rw [base_len]; omega), getD_none (by simp; omega)]
theorem base_yes (F : Fw) {t : Nat} (ht : t < F.n) (hl : F.loose t = true) : baseF F (t + 1) = (baseF F t).set t allB := by
  refine list_getD_ext (by rw [List.length_set, base_len, base_len]) fun j => ?_
  rw [set_getD, base_len]
  by_cases e : t = j
  · subst e; rw [if_pos ⟨rfl, ht⟩, base_get F _ ht, if_pos ⟨Nat.lt_succ_self t, hl⟩]
  · rw [if_neg (fun c => e c.1)]
    by_cases hj : j < F.n
    · rw [base_get F _ hj, base_get F _ hj]
      by_cases e2 : j < t
      · by_cases e3 : F.loose j = true
        · rw [if_pos ⟨by omega, e3⟩, if_pos ⟨e2, e3⟩]
        · rw [if_neg (fun c => e3 c.2), if_neg (fun c => e3 c.2)]
      · rw [if_neg (fun c => by omega), if_neg (fun c => e2 c.1)]
    · rw [getD_none (by rw [base_len]; omega), getD_none (by rw [base_len]; omega)]
theorem base_no (F : Fw) {t : Nat} (hl : F.loose t = false) : baseF F (t + 1) = baseF F t := by
  refine list_getD_ext (by rw [base_len, base_len]) fun j => ?_
  by_cases hj : j < F.n
  · rw [base_get F _ hj, base_get F _ hj]
    by_cases e : j = t
    · subst e; rw [if_neg (fun c => by rw [hl] at c; exact absurd c.2 (by simp)), if_neg (fun c => Nat.lt_irrefl _ c.1)]
    · by_cases e2 : j < t
      · by_cases e3 : F.loose j = true
        · rw [if_pos ⟨by omega, e3⟩, if_pos ⟨e2, e3⟩]
        · rw [if_neg (fun c => e3 c.2), if_neg (fun c => e3 c.2)]
      · rw [if_neg (fun c => by omega), if_neg (fun c => e2 c.1)]
  · rw [getD_none (by rw [base_len]; omega), getD_none (by rw [base_len]; omega)]
theorem Fl.start (F : Fw) {ws : List Bool} (hl : ws.length = F.n) (hw : ∀ k, k < F.n → ws.getD k false = true) : Fl F (List.replicate F.n (BitVec.ofNat 32 0)) (baseF F F.n) ws (List.range F.n) := by
  refine ⟨dn_zero F, base_len F _, fun k hk => ?_, fun k hk hl => ?_, fun k hk hwk => ?_, ⟨hl, fun k => ?_, List.nodup_range⟩⟩
  · rw [base_get F _ hk]
    split
    · rename_i e; unfold behF; rw [if_pos e.2]; exact leB_refl _
    · exact leB_zero _
  · rw [base_get F _ hk, if_pos ⟨hk, hl⟩]
  · rw [hw k hk] at hwk; cases hwk
  · rw [List.mem_range]
    exact ⟨fun h => ⟨h, hw k h⟩, fun h => h.1⟩
/-- Who stands ahead of whom, so far: those of the blocks below t, and of t's first s. -/
structure Bf (F : Fw) (t s : Nat) (bf : Nat → List Nat) : Prop where
  mem : ∀ m j, j ∈ bf m ↔ (j < t ∧ m ∈ F.next j) ∨ (j = t ∧ m ∈ (F.next t).take s)
  len : ∀ m, (bf m).length ≤ 2 * t + s
theorem Bf.start (F : Fw) : Bf F 0 0 (fun _ => []) := ⟨fun m j => by simp, fun m => by simp⟩
def addF (bf : Nat → List Nat) (u k : Nat) : Nat → List Nat := fun m => if m = u then bf m ++ [k] else bf m
theorem Bf.step {t s u : Nat} {bf : Nat → List Nat} (h : Bf F t s bf) (hu : (F.next t)[s]? = some u) : Bf F t (s + 1) (addF bf u t) := by
  refine ⟨fun m j => ?_, fun m => ?_⟩
  · have h1 := h.mem m j
    unfold addF
    rw [List.take_add_one, hu, Option.toList_some, List.mem_append, List.mem_singleton]
    by_cases e : m = u
    · rw [if_pos e, List.mem_append, List.mem_singleton, h1]
      constructor
      · rintro ((h2 | ⟨h2, h3⟩) | h2)
        · exact .inl h2
        · exact .inr ⟨h2, .inl h3⟩
        · exact .inr ⟨h2, .inr e⟩
      · rintro (h2 | ⟨h2, h3⟩)
        · exact .inl (.inl h2)
        · exact .inr h2
    · rw [if_neg e, h1]
      constructor
      · rintro (h2 | ⟨h2, h3⟩)
        · exact .inl h2
        · exact .inr ⟨h2, .inl h3⟩
      · rintro (h2 | ⟨h2, h3 | h3⟩)
        · exact .inl h2
        · exact .inr ⟨h2, h3⟩
        · exact absurd h3 e
  · have := h.len m
    unfold addF
    split
    · rw [List.length_append]; simp; omega
    · omega
theorem Bf.next {t : Nat} {bf : Nat → List Nat} (h : Bf F t (F.next t).length bf) (h2 : (F.next t).length ≤ 2) : Bf F (t + 1) 0 bf := by
  refine ⟨fun m j => ?_, fun m => by have := h.len m; omega⟩
  rw [h.mem m j, List.take_length]
  simp only [List.take_zero, List.not_mem_nil, and_false, or_false]
  constructor
  · rintro (h3 | ⟨rfl, h3⟩)
    · exact ⟨by omega, h3.2⟩
    · exact ⟨by omega, h3⟩
  · rintro ⟨h3, h4⟩
    by_cases e : j = t
    · subst e; exact .inr ⟨rfl, h4⟩
    · exact .inl ⟨by omega, h4⟩
theorem Bf.all {bf : Nat → List Nat} (h : Bf F F.n 0 bf) (m j : Nat) : j ∈ bf m ↔ j < F.n ∧ m ∈ F.next j := by
  rw [h.mem m j]; simp
end Lv
end Go.Proofs.YtcffpmicencfpabGreat
namespace Go.Proofs.YtcffpmicencfpabGreat
open Go.RowKit Go.Lib Go.Sort Go.Maps Ip Bl Lv Pm
set_option linter.unusedSimpArgs false
set_option linter.unusedVariables false

structure Pt where
  nd : BitVec 32
  mo : BitVec 32
  nv : Value
  bv : Value
  wa : Bool
def ptC (p : Pt) : List Value := [.int .u32 (p.nd.toNat : Int), .int .u32 (p.mo.toNat : Int), p.nv, p.bv, .bool p.wa]
def ptsC (P : List Pt) : List Value := P.flatMap ptC
theorem ptsC_cons (p : Pt) (P : List Pt) : ptsC (p :: P) = ptC p ++ ptsC P := rfl
theorem ptC_len (p : Pt) : (ptC p).length = 5 := rfl
theorem ptsC_len (P : List Pt) : (ptsC P).length = P.length * 5 := by
  induction P with
  | nil => rfl
  | cons p P ih => rw [ptsC_cons, List.length_append, ih, ptC_len, List.length_cons]; omega
theorem ptsC_get (P : List Pt) {k j : Nat} {p : Pt} (h : P[k]? = some p) (hj : j < 5) : (ptsC P)[k * 5 + j]? = (ptC p)[j]? := by
  induction P generalizing k with
  | nil => simp at h
  | cons a P ih =>
    rw [ptsC_cons]
    cases k with
    | zero =>
      simp at h; subst h
      rw [Nat.zero_mul, Nat.zero_add, List.getElem?_append_left (by rw [ptC_len]; exact hj)]
    | succ k =>
      rw [List.getElem?_append_right (by rw [ptC_len]; omega), ptC_len, show (k + 1) * 5 + j - 5 = k * 5 + j by omega]
      exact ih (by simpa using h)
theorem ptsC_set (P : List Pt) {k j : Nat} {p q : Pt} {u : Value} (h : P[k]? = some p) (hj : j < 5) (hq : (ptC p).set j u = ptC q) : (ptsC P).set (k * 5 + j) u = ptsC (P.set k q) := by
  induction P generalizing k with
  | nil => simp at h
  | cons a P ih =>
    rw [ptsC_cons]
    cases k with
    | zero =>
      simp at h; subst h
      rw [Nat.zero_mul, Nat.zero_add, List.set_append_left _ _ (by rw [ptC_len]; exact hj), hq]; rfl
    | succ k =>
      rw [List.set_append_right _ _ (by rw [ptC_len]; omega), ptC_len, show (k + 1) * 5 + j - 5 = k * 5 + j by omega, ih (by simpa using h)]; rfl
def Ap (u v : Value) : Prop := ∀ k, u.ownBlock = some k → v.ownBlock ≠ some k
theorem Ap.symm {u v : Value} (h : Ap u v) : Ap v u := fun k e e2 => h k e2 e
theorem Ap.or {u v : Value} (h : Ap u v) : u.ownBlock = none ∨ u.ownBlock ≠ v.ownBlock := by
  cases e : u.ownBlock with
  | none => exact .inl rfl
  | some k => exact .inr (fun e2 => h k e e2.symm)
theorem ap_nil (u : Value) : Ap (.slice none 0 0) u := fun k e => by cases e
/-- A row that was written anew: where it was, or in a new block. -/
theorem Ap.moved {u v v' : Value} {N : Nat} (h : Ap v u) (hat : v'.ownBlock = v.ownBlock ∨ v'.ownBlock = some N) (hu : ∀ k, u.ownBlock = some k → k < N) : Ap v' u := fun k e e2 => by
  rcases hat with h1 | h1
  · exact h k (h1 ▸ e) e2
  · rw [e] at h1; injection h1 with h1; have := hu k e2; omega
/-- The rows of numbers that the parts have. -/
structure Fsr (B0 : Nat) (P : List Pt) (nx bf : Nat → List Nat) (W : World) : Prop where
  rn : ∀ (k : Nat) (p : Pt), P[k]? = some p → W.ownsRow B0 3 1 p.nv (nx k).length ((nx k).map numV8)
  rf : ∀ (k : Nat) (p : Pt), P[k]? = some p → W.ownsRow B0 3 1 p.bv (bf k).length ((bf k).map numV8)
  nb : ∀ (j k : Nat) (p q : Pt), P[j]? = some p → P[k]? = some q → Ap p.nv q.bv
  bb : ∀ (j k : Nat) (p q : Pt), j ≠ k → P[j]? = some p → P[k]? = some q → Ap p.bv q.bv
structure FM (w0 : World) (B0 gf : Nat) (va vb vp vw : Value) (n : Nat) (A B : List (BitVec 32)) (P : List Pt) (wt : List Nat) (nx bf : Nat → List Nat) (W : World) : Prop where
  box : W.heap[gf]? = some (.cells #[va, vb, vp, vw] 50 (0, 0))
  big : B0 ≤ gf
  ra : W.ownsRow B0 22 1 va n ((natL A).map wordV)
  rb : W.ownsRow B0 22 1 vb n ((natL B).map wordV)
  rp : W.ownsRow B0 67 5 vp n (ptsC P)
  rw : W.ownsRow B0 3 1 vw wt.length (wt.map numV8)
  fs : Fsr B0 P nx bf W
  ab : Ap va vb
  wn : ∀ (k : Nat) (p : Pt), P[k]? = some p → Ap vw p.nv ∧ Ap vw p.bv
  low : Below B0 w0 W
section
variable {w0 : World} {B0 gf n : Nat} {va vb vp vw : Value} {A B : List (BitVec 32)} {P : List Pt} {wt : List Nat} {nx bf : Nat → List Nat} {W W' : World}
theorem Fsr.kept (h : Fsr B0 P nx bf W) {row : Option Nat} (hg : W.grownBy W' row) (hr : ∀ (k : Nat) (p : Pt), P[k]? = some p → (p.nv.ownBlock = none ∨ p.nv.ownBlock ≠ row) ∧ (p.bv.ownBlock = none ∨ p.bv.ownBlock ≠ row)) : Fsr B0 P nx bf W' :=
  ⟨fun k p hp => (h.rn k p hp).kept hg (hr k p hp).1, fun k p hp => (h.rf k p hp).kept hg (hr k p hp).2, h.nb, h.bb⟩
/-- A row of another kind is written. -/
theorem Fsr.other (h : Fsr B0 P nx bf W) {b e s m : Nat} {v : Value} {xs : List Value} (hv : W.ownsRow b e s v m xs) (he : e ≠ 3) (hg : W.grownBy W' v.ownBlock) : Fsr B0 P nx bf W' :=
  h.kept hg fun k p hp => ⟨rows_apart (h.rn k p hp) hv (fun e2 => he e2.symm), rows_apart (h.rf k p hp) hv (fun e2 => he e2.symm)⟩
/-- A box of another kind is written. -/
theorem Fsr.box (h : Fsr B0 P nx bf W) {g : Nat} {cs : Array Value} {t : TypeId} {fr : Nat × Nat} (hbx : W.heap[g]? = some (.cells cs t fr)) (he : t ≠ 3) (hg : W.grownBy W' (some g)) : Fsr B0 P nx bf W' :=
  h.kept hg fun k p hp => ⟨.inr (fun e => row_box (h.rn k p hp) hbx he e.symm), .inr (fun e => row_box (h.rf k p hp) hbx he e.symm)⟩
theorem set_get {P : List Pt} {k j : Nat} {q p : Pt} (h : (P.set k q)[j]? = some p) : (k = j ∧ p = q) ∨ (k ≠ j ∧ P[j]? = some p) := by
  rw [List.getElem?_set] at h
  by_cases e : k = j
  · rw [if_pos e] at h
    split at h
    · injection h with h; exact .inl ⟨e, h.symm⟩
    · cases h
  · rw [if_neg e] at h; exact .inr ⟨e, h⟩
theorem Fsr.same (h : Fsr B0 P nx bf W) {k : Nat} {p q : Pt} (hp : P[k]? = some p) (h1 : q.nv = p.nv) (h2 : q.bv = p.bv) : Fsr B0 (P.set k q) nx bf W := by
  have key : ∀ (j : Nat) (r : Pt), (P.set k q)[j]? = some r → ∃ r', P[j]? = some r' ∧ r.nv = r'.nv ∧ r.bv = r'.bv := fun j r hr => by
    rcases set_get hr with ⟨e, rfl⟩ | ⟨_, e⟩
    · subst e; exact ⟨p, hp, h1, h2⟩
    · exact ⟨r, e, rfl, rfl⟩
  refine ⟨fun j r hr => ?_, fun j r hr => ?_, fun i j r s hr hs => ?_, fun i j r s hne hr hs => ?_⟩
  · obtain ⟨r', e, e1, e2⟩ := key j r hr; rw [e1]; exact h.rn j r' e
  · obtain ⟨r', e, e1, e2⟩ := key j r hr; rw [e2]; exact h.rf j r' e
  · obtain ⟨r', e, e1, e2⟩ := key i r hr; obtain ⟨s', f, f1, f2⟩ := key j s hs; rw [e1, f2]; exact h.nb i j r' s' e f
  · obtain ⟨r', e, e1, e2⟩ := key i r hr; obtain ⟨s', f, f1, f2⟩ := key j s hs; rw [e2, f2]; exact h.bb i j r' s' hne e f
theorem FM.lenA (h : FM w0 B0 gf va vb vp vw n A B P wt nx bf W) : A.length = n := by
  have := h.ra.1; rw [List.length_map, natL_len] at this; omega
theorem FM.lenB (h : FM w0 B0 gf va vb vp vw n A B P wt nx bf W) : B.length = n := by
  have := h.rb.1; rw [List.length_map, natL_len] at this; omega
theorem FM.lenP (h : FM w0 B0 gf va vb vp vw n A B P wt nx bf W) : P.length = n := by
  have := h.rp.1; rw [ptsC_len] at this; omega
theorem FM.size (h : FM w0 B0 gf va vb vp vw n A B P wt nx bf W) : B0 < W.heap.size := by
  have := (Array.getElem?_eq_some_iff.1 h.box).1; have := h.big; omega
theorem FM.ext (h : FM w0 B0 gf va vb vp vw n A B P wt nx bf W) (hb : Below W.heap.size W W') : FM w0 B0 gf va vb vp vw n A B P wt nx bf W' :=
  ⟨keptN hb h.box, h.big, kept_below h.ra hb, kept_below h.rb hb, kept_below h.rp hb, kept_below h.rw hb, h.fs.kept (grown_of_below hb) (fun k p _ => ⟨by cases p.nv.ownBlock <;> simp, by cases p.bv.ownBlock <;> simp⟩), h.ab, h.wn, h.low.trans (hb.mono (Nat.le_of_lt h.size))⟩
/-- The box in which the flow lies. -/
theorem FM.cells (h : FM w0 B0 gf va vb vp vw n A B P wt nx bf W) : W.cell? ⟨gf, 0, none⟩ = some va ∧ W.cell? ⟨gf, 1, none⟩ = some vb ∧ W.cell? ⟨gf, 2, none⟩ = some vp ∧ W.cell? ⟨gf, 3, none⟩ = some vw ∧ W.frozen? ⟨gf, 3, none⟩ = false := by
  refine ⟨?_, ?_, ?_, ?_, ?_⟩
  · simp [World.cell?, h.box]
  · simp [World.cell?, h.box]
  · simp [World.cell?, h.box]
  · simp [World.cell?, h.box]
  · simp [World.frozen?, h.box]
theorem FM.rebox (h : FM w0 B0 gf va vb vp vw n A B P wt nx bf W) {g : Nat} (hb : W.heap[g]? = some (.cells #[va, vb, vp, vw] 50 (0, 0))) (hg : B0 ≤ g) : FM w0 B0 g va vb vp vw n A B P wt nx bf W := ⟨hb, hg, h.ra, h.rb, h.rp, h.rw, h.fs, h.ab, h.wn, h.low⟩
/-- Whatever grows but the box and the rows of words and parts. -/
theorem FM.block (h : FM w0 B0 gf va vb vp vw n A B P wt nx bf W) {b e s m : Nat} {v : Value} {xs : List Value} (hv : W.ownsRow b e s v m xs) (he : e ≠ 50) (hg : W.grownBy W' v.ownBlock) : W'.heap[gf]? = some (.cells #[va, vb, vp, vw] 50 (0, 0)) :=
  (hg.block gf (Array.getElem?_eq_some_iff.1 h.box).1 (row_box hv h.box (fun e2 => he e2.symm))).trans h.box
theorem FM.lowG (h : FM w0 B0 gf va vb vp vw n A B P wt nx bf W) {e s m : Nat} {v : Value} {xs : List Value} (hv : W.ownsRow B0 e s v m xs) (hg : W.grownBy W' v.ownBlock) : Below B0 w0 W' :=
  h.low.grown hg (Nat.le_of_lt h.size) (fun k e => (hv.lt k e).1)
theorem FM.setA {g c : Nat} (h : FM w0 B0 gf (.slice (some ⟨g, 0, none⟩) n c) vb vp vw n A B P wt nx bf W) (k : Nat) (z : BitVec 32) : FM w0 B0 gf (.slice (some ⟨g, 0, none⟩) n c) vb vp vw n (A.set k z) B P wt nx bf (W.setCell ⟨g, k, none⟩ (.int .u32 (z.toNat : Int))) := by
  obtain ⟨h1, h2⟩ := h.ra.stored k (.int .u32 (z.toNat : Int))
  rw [natV_set] at h1
  have h3 : W.grownBy (W.setCell ⟨g, k, none⟩ (.int .u32 (z.toNat : Int))) (Value.slice (some ⟨g, 0, none⟩) n c).ownBlock := h2
  exact ⟨h.block h.ra (by decide) h3, h.big, h1, h.rb.kept h3 h.ab.symm.or, h.rp.kept h3 (rows_apart h.rp h.ra (by decide)), h.rw.kept h3 (rows_apart h.rw h.ra (by decide)), h.fs.other h.ra (by decide) h3, h.ab, h.wn, h.lowG h.ra h3⟩
theorem FM.setB {g c : Nat} (h : FM w0 B0 gf va (.slice (some ⟨g, 0, none⟩) n c) vp vw n A B P wt nx bf W) (k : Nat) (z : BitVec 32) : FM w0 B0 gf va (.slice (some ⟨g, 0, none⟩) n c) vp vw n A (B.set k z) P wt nx bf (W.setCell ⟨g, k, none⟩ (.int .u32 (z.toNat : Int))) := by
  obtain ⟨h1, h2⟩ := h.rb.stored k (.int .u32 (z.toNat : Int))
  rw [natV_set] at h1
  have h3 : W.grownBy (W.setCell ⟨g, k, none⟩ (.int .u32 (z.toNat : Int))) (Value.slice (some ⟨g, 0, none⟩) n c).ownBlock := h2
  exact ⟨h.block h.rb (by decide) h3, h.big, h.ra.kept h3 h.ab.or, h1, h.rp.kept h3 (rows_apart h.rp h.rb (by decide)), h.rw.kept h3 (rows_apart h.rw h.rb (by decide)), h.fs.other h.rb (by decide) h3, h.ab, h.wn, h.lowG h.rb h3⟩
/-- A cell of a part that is no row of numbers. -/
theorem FM.setP {g c : Nat} (h : FM w0 B0 gf va vb (.slice (some ⟨g, 0, none⟩) n c) vw n A B P wt nx bf W) {k j : Nat} {p q : Pt} {u : Value} (hp : P[k]? = some p) (hj : j < 5) (hq : (ptC p).set j u = ptC q) (hn : q.nv = p.nv) (hb : q.bv = p.bv) :
    FM w0 B0 gf va vb (.slice (some ⟨g, 0, none⟩) n c) vw n A B (P.set k q) wt nx bf (W.setCell ⟨g, k * 5 + j, none⟩ u) := by
  obtain ⟨h1, h2⟩ := h.rp.stored (k * 5 + j) u
  rw [ptsC_set P hp hj hq] at h1
  have h3 : W.grownBy (W.setCell ⟨g, k * 5 + j, none⟩ u) (Value.slice (some ⟨g, 0, none⟩) n c).ownBlock := h2
  refine ⟨h.block h.rp (by decide) h3, h.big, h.ra.kept h3 (rows_apart h.ra h.rp (by decide)), h.rb.kept h3 (rows_apart h.rb h.rp (by decide)), h1, h.rw.kept h3 (rows_apart h.rw h.rp (by decide)), (h.fs.other h.rp (by decide) h3).same hp hn hb, h.ab, fun i r hr => ?_, h.lowG h.rp h3⟩
  rcases set_get hr with ⟨e, rfl⟩ | ⟨_, e⟩
  · rw [hn, hb]; exact h.wn k p hp
  · exact h.wn i r e
def setN (nx : Nat → List Nat) (k : Nat) (l : List Nat) : Nat → List Nat := fun m => if m = k then l else nx m
/-- A part gets its row of those behind it. -/
theorem FM.setX {g c : Nat} (h : FM w0 B0 gf va vb (.slice (some ⟨g, 0, none⟩) n c) vw n A B P wt nx bf W) {k : Nat} {p : Pt} {v : Value} {l : List Nat} (hp : P[k]? = some p) (hv : W.ownsRow B0 3 1 v l.length (l.map numV8)) (hw : Ap vw v) (hb : ∀ (j : Nat) (q : Pt), P[j]? = some q → Ap v q.bv) :
    FM w0 B0 gf va vb (.slice (some ⟨g, 0, none⟩) n c) vw n A B (P.set k ⟨p.nd, p.mo, v, p.bv, p.wa⟩) wt (setN nx k l) bf (W.setCell ⟨g, k * 5 + 2, none⟩ v) := by
  obtain ⟨h1, h2⟩ := h.rp.stored (k * 5 + 2) v
  rw [ptsC_set (q := ⟨p.nd, p.mo, v, p.bv, p.wa⟩) P hp (by decide) rfl] at h1
  have h3 : W.grownBy (W.setCell ⟨g, k * 5 + 2, none⟩ v) (Value.slice (some ⟨g, 0, none⟩) n c).ownBlock := h2
  have hfs := h.fs.other h.rp (by decide) h3
  have hv' := hv.kept h3 (rows_apart hv h.rp (by decide))
  have key : ∀ (j : Nat) (r : Pt), (P.set k ⟨p.nd, p.mo, v, p.bv, p.wa⟩)[j]? = some r → ∃ r', P[j]? = some r' ∧ r.bv = r'.bv ∧ ((j = k ∧ r.nv = v) ∨ (j ≠ k ∧ r.nv = r'.nv)) := fun j r hr => by
    rcases set_get hr with ⟨e, rfl⟩ | ⟨hne, e⟩
    · subst e; exact ⟨p, hp, rfl, .inl ⟨rfl, rfl⟩⟩
    · exact ⟨r, e, rfl, .inr ⟨fun c => hne c.symm, rfl⟩⟩
  refine ⟨h.block h.rp (by decide) h3, h.big, h.ra.kept h3 (rows_apart h.ra h.rp (by decide)), h.rb.kept h3 (rows_apart h.rb h.rp (by decide)), h1, h.rw.kept h3 (rows_apart h.rw h.rp (by decide)), ⟨fun j r hr => ?_, fun j r hr => ?_, fun i j r s hr hs => ?_, fun i j r s hne hr hs => ?_⟩, h.ab, fun i r hr => ?_, h.lowG h.rp h3⟩
  · obtain ⟨r', e, e1, e2⟩ := key j r hr
    unfold setN
    rcases e2 with ⟨e2, e3⟩ | ⟨e2, e3⟩
    · rw [if_pos e2, e3]; exact hv'
    · rw [if_neg e2, e3]; exact hfs.rn j r' e
  · obtain ⟨r', e, e1, e2⟩ := key j r hr; rw [e1]; exact hfs.rf j r' e
  · obtain ⟨r', e, e1, e2⟩ := key i r hr; obtain ⟨s', f, f1, _⟩ := key j s hs
    rw [f1]
    rcases e2 with ⟨e2, e3⟩ | ⟨e2, e3⟩
    · rw [e3]; exact hb j s' f
    · rw [e3]; exact h.fs.nb i j r' s' e f
  · obtain ⟨r', e, e1, _⟩ := key i r hr; obtain ⟨s', f, f1, _⟩ := key j s hs; rw [e1, f1]; exact h.fs.bb i j r' s' hne e f
  · obtain ⟨r', e, e1, e2⟩ := key i r hr
    rw [e1]
    rcases e2 with ⟨e2, e3⟩ | ⟨e2, e3⟩
    · rw [e3]; exact ⟨hw, (h.wn i r' e).2⟩
    · rw [e3]; exact h.wn i r' e
theorem FM.setW (h : FM w0 B0 gf va vb vp vw n A B P wt nx bf W) {v' : Value} {wt' : List Nat} (hr : W.ownsRow B0 3 1 v' wt'.length (wt'.map numV8)) (hn : ∀ (k : Nat) (p : Pt), P[k]? = some p → Ap v' p.nv ∧ Ap v' p.bv) : FM w0 B0 gf va vb vp v' n A B P wt' nx bf (W.setCell ⟨gf, 3, none⟩ v') := by
  have hs := grown_setCell W ⟨gf, 3, none⟩ v'
  have hc := h.box
  refine ⟨?_, h.big, h.ra.kept hs (.inr (fun e => row_box h.ra hc (by decide) e.symm)), h.rb.kept hs (.inr (fun e => row_box h.rb hc (by decide) e.symm)), h.rp.kept hs (.inr (fun e => row_box h.rp hc (by decide) e.symm)), hr.kept hs (.inr (fun e => row_box hr hc (by decide) e.symm)), h.fs.box hc (by decide) hs, h.ab, hn, h.low.grown hs (Nat.le_of_lt h.size) (fun k e => by injection e with e; have := h.big; simp only at e; omega)⟩
  have := heap_setCell_same W gf 3 #[va, vb, vp, vw] 50 v' hc
  simpa using this
theorem FM.ltW (h : FM w0 B0 gf va vb vp vw n A B P wt nx bf W) {k : Nat} {p : Pt} (hp : P[k]? = some p) : (∀ j, p.nv.ownBlock = some j → j < W.heap.size) ∧ (∀ j, p.bv.ownBlock = some j → j < W.heap.size) := ⟨fun j e => ((h.fs.rn k p hp).lt j e).2, fun j e => ((h.fs.rf k p hp).lt j e).2⟩
/-- One more waits: the row is lengthened .. -/
theorem FM.pushW (h : FM w0 B0 gf va vb vp vw n A B P wt nx bf W) {o : Obj} {v' : Value} {k : Nat} (hown : W'.ownsRow B0 3 1 v' (wt.length + 1) (wt.map numV8 ++ [.int .i64 (k : Int)])) (hg : (W.alloc o).grownBy W' vw.ownBlock) (hat : v'.ownBlock = vw.ownBlock ∨ v'.ownBlock = some (W.alloc o).heap.size) :
    FM w0 B0 gf va vb vp v' n A B P (wt ++ [k]) nx bf (W'.setCell ⟨gf, 3, none⟩ v') ∧ W'.frozen? ⟨gf, 3, none⟩ = false ∧ W'.cell? ⟨gf, 3, none⟩ = some vw := by
  have ha := h.ext ((Below.refl _ W).alloc (Nat.le_refl _) o)
  have hfs : Fsr B0 P nx bf W' := ha.fs.kept hg (fun k p hp => ⟨(h.wn k p hp).1.symm.or, (h.wn k p hp).2.symm.or⟩)
  have hbox := ha.block ha.rw (by decide) hg
  refine ⟨?_, by simp [World.frozen?, hbox], by simp [World.cell?, hbox]⟩
  have hs := grown_setCell W' ⟨gf, 3, none⟩ v'
  have hr : W'.ownsRow B0 3 1 v' (wt ++ [k]).length ((wt ++ [k]).map numV8) := by simpa [numV8] using hown
  have ra := ha.ra.kept hg (rows_apart ha.ra ha.rw (by decide))
  have rb := ha.rb.kept hg (rows_apart ha.rb ha.rw (by decide))
  have rp := ha.rp.kept hg (rows_apart ha.rp ha.rw (by decide))
  have lo := ha.lowG ha.rw hg
  refine ⟨?_, h.big, ra.kept hs (.inr (fun e => row_box ra hbox (by decide) e.symm)), rb.kept hs (.inr (fun e => row_box rb hbox (by decide) e.symm)), rp.kept hs (.inr (fun e => row_box rp hbox (by decide) e.symm)), hr.kept hs (.inr (fun e => row_box hr hbox (by decide) e.symm)), hfs.box hbox (by decide) hs, h.ab, fun j p hp => ?_, lo.grown hs (Nat.le_trans (Nat.le_of_lt ha.size) hg.size) (fun k e => by injection e with e; have := h.big; simp only at e; omega)⟩
  · have := heap_setCell_same W' gf 3 #[va, vb, vp, vw] 50 v' hbox
    simpa using this
  · obtain ⟨l1, l2⟩ := ha.ltW hp
    exact ⟨(h.wn j p hp).1.moved hat l1, (h.wn j p hp).2.moved hat l2⟩
/-- One more stands ahead of block m. -/
theorem FM.pushF {g c : Nat} (h : FM w0 B0 gf va vb (.slice (some ⟨g, 0, none⟩) n c) vw n A B P wt nx bf W) {o : Obj} {v' : Value} {m k : Nat} {p : Pt} (hp : P[m]? = some p) (hown : W'.ownsRow B0 3 1 v' ((bf m).length + 1) ((bf m).map numV8 ++ [.int .i64 (k : Int)])) (hg : (W.alloc o).grownBy W' p.bv.ownBlock) (hat : v'.ownBlock = p.bv.ownBlock ∨ v'.ownBlock = some (W.alloc o).heap.size) :
    FM w0 B0 gf va vb (.slice (some ⟨g, 0, none⟩) n c) vw n A B (P.set m ⟨p.nd, p.mo, p.nv, v', p.wa⟩) wt nx (addF bf m k) (W'.setCell ⟨g, m * 5 + 3, none⟩ v') ∧ (∀ j, W'.frozen? ⟨g, j, none⟩ = false) ∧ (∀ j, j < n * 5 → W'.cell? ⟨g, j, none⟩ = (ptsC P)[j]?) := by
  have ha := h.ext ((Below.refl _ W).alloc (Nat.le_refl _) o)
  have rv := ha.fs.rf m p hp
  have hbox := ha.block rv (by decide) hg
  have ra := ha.ra.kept hg (rows_apart ha.ra rv (by decide))
  have rb := ha.rb.kept hg (rows_apart ha.rb rv (by decide))
  have rp := ha.rp.kept hg (rows_apart ha.rp rv (by decide))
  have rw' := ha.rw.kept hg (ha.wn m p hp).2.or
  have lo := ha.lowG rv hg
  obtain ⟨h1, h2⟩ := rp.stored (m * 5 + 3) v'
  rw [ptsC_set (q := ⟨p.nd, p.mo, p.nv, v', p.wa⟩) P hp (by decide) rfl] at h1
  have h3 : W'.grownBy (W'.setCell ⟨g, m * 5 + 3, none⟩ v') (Value.slice (some ⟨g, 0, none⟩) n c).ownBlock := h2
  have hr : W'.ownsRow B0 3 1 v' ((bf m) ++ [k]).length (((bf m) ++ [k]).map numV8) := by simpa [numV8] using hown
  have key : ∀ (j : Nat) (r : Pt), (P.set m ⟨p.nd, p.mo, p.nv, v', p.wa⟩)[j]? = some r → ∃ r', P[j]? = some r' ∧ r.nv = r'.nv ∧ ((j = m ∧ r.bv = v' ∧ r' = p) ∨ (j ≠ m ∧ r.bv = r'.bv)) := fun j r hr => by
    rcases set_get hr with ⟨e, rfl⟩ | ⟨hne, e⟩
    · subst e; exact ⟨p, hp, rfl, .inl ⟨rfl, rfl, rfl⟩⟩
    · exact ⟨r, e, rfl, .inr ⟨fun c => hne c.symm, rfl⟩⟩
  have kn : ∀ (j : Nat) (r : Pt), P[j]? = some r → W'.ownsRow B0 3 1 r.nv (nx j).length ((nx j).map numV8) := fun j r hj => (ha.fs.rn j r hj).kept hg (h.fs.nb j m r p hj hp).or
  have kf : ∀ (j : Nat) (r : Pt), j ≠ m → P[j]? = some r → W'.ownsRow B0 3 1 r.bv (bf j).length ((bf j).map numV8) := fun j r hne hj => (ha.fs.rf j r hj).kept hg (h.fs.bb j m r p hne hj hp).or
  have pn : ∀ {e s b x : Nat} {v : Value} {xs : List Value}, W'.ownsRow b e s v x xs → e ≠ 67 → (W'.setCell ⟨g, m * 5 + 3, none⟩ v').ownsRow b e s v x xs := fun h0 he => h0.kept h3 (rows_apart h0 rp he)
  refine ⟨⟨?_, h.big, pn ra (by decide), pn rb (by decide), h1, pn rw' (by decide), ⟨fun j r hr' => ?_, fun j r hr' => ?_, fun i j r s hr' hs => ?_, fun i j r s hne hr' hs => ?_⟩, h.ab, fun i r hr' => ?_, lo.grown h3 (Nat.le_trans (Nat.le_of_lt ha.size) hg.size) (fun k e => (rp.lt k e).1)⟩, rp.frozenAt, rp.cellAt⟩
  · exact (h3.block gf (Array.getElem?_eq_some_iff.1 hbox).1 (row_box rp hbox (by decide))).trans hbox
  · obtain ⟨r', e, e1, _⟩ := key j r hr'; rw [e1]; exact pn (kn j r' e) (by decide)
  · obtain ⟨r', e, e1, e2⟩ := key j r hr'
    unfold addF
    rcases e2 with ⟨e2, e3, _⟩ | ⟨e2, e3⟩
    · rw [if_pos e2, e3, e2]; exact pn hr (by decide)
    · rw [if_neg e2, e3]; exact pn (kf j r' e2 e) (by decide)
  · obtain ⟨r', e, e1, _⟩ := key i r hr'; obtain ⟨s', f, _, f2⟩ := key j s hs
    rw [e1]
    rcases f2 with ⟨f2, f3, rfl⟩ | ⟨f2, f3⟩
    · rw [f3]; exact ((h.fs.nb i m r' _ e hp).symm.moved hat (ha.ltW e).1).symm
    · rw [f3]; exact h.fs.nb i j r' s' e f
  · obtain ⟨r', e, _, e2⟩ := key i r hr'; obtain ⟨s', f, _, f2⟩ := key j s hs
    rcases e2 with ⟨e2, e3, rfl⟩ | ⟨e2, e3⟩
    · rcases f2 with ⟨f2, f3, _⟩ | ⟨f2, f3⟩
      · exact absurd (e2.trans f2.symm) hne
      · rw [e3, f3]; exact (h.fs.bb i j _ s' hne e f).moved hat (ha.ltW f).2
    · rcases f2 with ⟨f2, f3, rfl⟩ | ⟨f2, f3⟩
      · rw [e3, f3]; exact ((h.fs.bb j i _ r' (fun c => hne c.symm) f e).moved hat (ha.ltW e).2).symm
      · rw [e3, f3]; exact h.fs.bb i j r' s' hne e f
  · obtain ⟨r', e, e1, e2⟩ := key i r hr'
    rw [e1]
    rcases e2 with ⟨e2, e3, rfl⟩ | ⟨e2, e3⟩
    · rw [e3]
      refine ⟨(h.wn i _ e).1, ((h.wn i _ e).2.symm.moved hat (fun j ej => ?_)).symm⟩
      exact (ha.rw.lt j ej).2
    · rw [e3]; exact h.wn i r' e
theorem FM.ptrA (h : FM w0 B0 gf va vb vp vw n A B P wt nx bf W) (hn : 0 < n) : ∃ g c, va = .slice (some ⟨g, 0, none⟩) n c := by
  obtain ⟨p, c, rfl⟩ := own_slice' h.ra
  obtain ⟨g, rfl⟩ := own_some h.ra hn
  exact ⟨g, c, rfl⟩
theorem FM.ptrB (h : FM w0 B0 gf va vb vp vw n A B P wt nx bf W) (hn : 0 < n) : ∃ g c, vb = .slice (some ⟨g, 0, none⟩) n c := by
  obtain ⟨p, c, rfl⟩ := own_slice' h.rb
  obtain ⟨g, rfl⟩ := own_some h.rb hn
  exact ⟨g, c, rfl⟩
theorem FM.ptrP (h : FM w0 B0 gf va vb vp vw n A B P wt nx bf W) (hn : 0 < n) : ∃ g c, vp = .slice (some ⟨g, 0, none⟩) n c := by
  obtain ⟨p, c, rfl⟩ := own_slice' h.rp
  obtain ⟨g, rfl⟩ := own_some h.rp hn
  exact ⟨g, c, rfl⟩
theorem FM.valW (h : FM w0 B0 gf va vb vp vw n A B P wt nx bf W) : ∃ p c, vw = .slice p wt.length c := own_slice' h.rw
theorem FM.ltP (h : FM w0 B0 gf va vb vp vw n A B P wt nx bf W) {k : Nat} {p : Pt} (hp : P[k]? = some p) : k < n := by
  have := (List.getElem?_eq_some_iff.1 hp).1
  rw [h.lenP] at this; exact this
/-- A part's cells. -/
theorem FM.part {g c : Nat} (h : FM w0 B0 gf va vb (.slice (some ⟨g, 0, none⟩) n c) vw n A B P wt nx bf W) {k : Nat} {p : Pt} (hp : P[k]? = some p) :
    W.cell? ⟨g, k * 5, none⟩ = some (.int .u32 (p.nd.toNat : Int)) ∧ W.cell? ⟨g, k * 5 + 1, none⟩ = some (.int .u32 (p.mo.toNat : Int)) ∧ W.cell? ⟨g, k * 5 + 2, none⟩ = some p.nv ∧ W.cell? ⟨g, k * 5 + 3, none⟩ = some p.bv ∧ W.cell? ⟨g, k * 5 + 4, none⟩ = some (.bool p.wa) ∧ ∀ j, W.frozen? ⟨g, j, none⟩ = false := by
  have hk := h.ltP hp
  have e := fun j (hj : j < 5) => (h.rp.cellAt (k * 5 + j) (by omega)).trans (ptsC_get P hp hj)
  exact ⟨e 0 (by decide), e 1 (by decide), e 2 (by decide), e 3 (by decide), e 4 (by decide), h.rp.frozenAt⟩
theorem FM.wordA {g c : Nat} (h : FM w0 B0 gf (.slice (some ⟨g, 0, none⟩) n c) vb vp vw n A B P wt nx bf W) {k : Nat} (hk : k < n) : W.cell? ⟨g, k, none⟩ = some (.int .u32 ((A.getD k (BitVec.ofNat 32 0)).toNat : Int)) ∧ W.frozen? ⟨g, k, none⟩ = false :=
  ⟨(h.ra.cellAt k (by omega)).trans (natV_get A (by rw [h.lenA]; exact hk)), h.ra.frozenAt k⟩
theorem FM.wordB {g c : Nat} (h : FM w0 B0 gf va (.slice (some ⟨g, 0, none⟩) n c) vp vw n A B P wt nx bf W) {k : Nat} (hk : k < n) : W.cell? ⟨g, k, none⟩ = some (.int .u32 ((B.getD k (BitVec.ofNat 32 0)).toNat : Int)) ∧ W.frozen? ⟨g, k, none⟩ = false :=
  ⟨(h.rb.cellAt k (by omega)).trans (natV_get B (by rw [h.lenB]; exact hk)), h.rb.frozenAt k⟩
theorem num_at {B0 m g c : Nat} {l : List Nat} (h : W.ownsRow B0 3 1 (.slice (some ⟨g, 0, none⟩) m c) m (l.map numV8)) {j x : Nat} (hj : l[j]? = some x) : W.cell? ⟨g, j, none⟩ = some (.int .i64 (x : Int)) := by
  have hl := h.1
  rw [List.length_map] at hl
  have := (List.getElem?_eq_some_iff.1 hj).1
  rw [h.cellAt j (by omega), List.getElem?_map, hj]; rfl
theorem set_self {P : List Pt} {k : Nat} {p : Pt} (h : P[k]? = some p) : P.set k p = P := by
  apply List.ext_getElem?
  intro j
  rw [List.getElem?_set]
  by_cases e : k = j
  · subst e
    rw [if_pos rfl, if_pos (List.getElem?_eq_some_iff.1 h).1, h]
  · rw [if_neg e]
end
end Go.Proofs.YtcffpmicencfpabGreat
namespace Go.Proofs.YtcffpmicencfpabGreat
open Go.RowKit Go.Lib Ip Bl Lv
set_option linter.unusedSimpArgs false
set_option linter.unusedVariables false

theorem rtw {a b : Int} (h : a = b) : Ending.returned (.int .u32 a) = .returned (.int .u32 b) := by rw [h]
theorem bit_shl (d : Nat) (hd : d < 32) : bits .and .u32 (((2 : Int) ^ d) % 4294967296) 4294967294 = ((oneB (d : Int)).toNat : Int) := by
  have h : ∀ d : Nat, d < 32 → bits .and .u32 (((2 : Int) ^ d) % 4294967296) 4294967294 = ((oneB (d : Int)).toNat : Int) := by decide +kernel
  exact h d hd
set_option maxHeartbeats 1000000 in
theorem lbit_any (r : Int) (h0 : 0 ≤ r) (h1 : r < 32) (w : World) : Calls Tryz.prog 34 #[.int .i64 r] w fun e w' => e = .returned (.int .u32 ((oneB r).toNat : Int)) ∧ w' = w := by
  obtain ⟨d, rfl⟩ := Int.eq_ofNat_of_zero_le h0
  have HS := hideE (bit_shl d (by omega))
  go_enter Tryz.func34, Tryz.ntmps34
  go_wp2_with fail
  go_ret
  exact ⟨rtw HS.out, rfl⟩
theorem us_no {x : Ins} (h : rightI x = false ∨ x.op = 3 ∨ x.op = 46) : ((usesB x).toNat : Int) = 4294967294 := by unfold usesB; rw [if_pos h]; rfl
theorem us_call {x : Ins} (h : ¬ (rightI x = false ∨ x.op = 3 ∨ x.op = 46)) (h2 : x.op = 45) : ((usesB x).toNat : Int) = 261120 := by unfold usesB; rw [if_neg h, if_pos h2]; rfl
theorem us_two {x : Ins} (h : ¬ (rightI x = false ∨ x.op = 3 ∨ x.op = 46)) (h2 : ¬ x.op = 45) : usesB x = oneB x.rs1 ||| oneB x.rs2 := by unfold usesB; rw [if_neg h, if_neg h2]
theorem st_no {x : Ins} (h : rightI x = false) : ((setsB x).toNat : Int) = 0 := by unfold setsB; rw [if_pos h]; rfl
theorem st_call {x : Ins} (h : rightI x = true) (h2 : x.op = 45) : ((setsB x).toNat : Int) = 1024 := by unfold setsB; rw [if_neg (by rw [h]; simp), if_pos h2]; rfl
theorem st_one {x : Ins} (h : rightI x = true) (h2 : ¬ x.op = 45) : setsB x = oneB x.rd := by unfold setsB; rw [if_neg (by rw [h]; simp), if_neg h2]
set_option maxHeartbeats 4000000 in
set_option maxRecDepth 100000 in
theorem lsets_any (x : Ins) (w : World) : Calls Tryz.prog 17 #[insV x] w fun e w' => e = .returned (.int .u32 ((setsB x).toNat : Int)) ∧ Below w.heap.size w w' := by
  obtain ⟨op, rd, rs1, rs2, imm⟩ := x
  have HB := hideE ((Below.refl _ w).alloc (Nat.le_refl _) (.cells #[.int .i64 op, .int .i64 rd, .int .i64 rs1, .int .i64 rs2, .int .i64 imm] 38))
  have hbx := inst_box w op rd rs1 rs2 imm
  obtain ⟨r, hr⟩ : ∃ r, right op rd rs1 rs2 imm = r := ⟨_, rfl⟩
  have HR := hideE (fun W => hr ▸ right_any op rd rs1 rs2 imm W)
  have HRI : Hid (rightI ⟨op, rd, rs1, rs2, imm⟩ = r) := hr
  clear hr
  simp only [insV]
  cases r
  · have HU := hideE (st_no (x := ⟨op, rd, rs1, rs2, imm⟩) HRI.out)
    go_enter Tryz.func17, Tryz.ntmps17
    go_wp2_with (go_at_call 33; refine (HR.out _).mono ?_; rintro e w1 ⟨rfl, hb1⟩; obtain ⟨c0, c1, c2, c3, c4⟩ := five (keptN hb1 hbx))
    go_ret
    exact ⟨rtw HU.out.symm, HB.out.trans (hb1.mono (by simp))⟩
  · by_cases h45 : op = 45
    · have HU := hideE (st_call (x := ⟨op, rd, rs1, rs2, imm⟩) HRI.out h45)
      subst h45
      go_enter Tryz.func17, Tryz.ntmps17
      go_wp2_with (go_at_call 33; refine (HR.out _).mono ?_; rintro e w1 ⟨rfl, hb1⟩; obtain ⟨c0, c1, c2, c3, c4⟩ := five (keptN hb1 hbx))
      go_ret
      exact ⟨rtw HU.out.symm, HB.out.trans (hb1.mono (by simp))⟩
    · have q45 : (op == 45) = false := beq_eq_false_iff_ne.2 h45
      have HU := hideE (st_one (x := ⟨op, rd, rs1, rs2, imm⟩) HRI.out h45)
      have hg := right_regs HRI.out
      have H1 := hideE (fun W => lbit_any rd hg.1 hg.2.1 W)
      clear h45 hg
      go_enter Tryz.func17, Tryz.ntmps17
      go_wp2_with (first
        | (go_at_call 33; refine (HR.out _).mono ?_; rintro e w1 ⟨rfl, hb1⟩; obtain ⟨c0, c1, c2, c3, c4⟩ := five (keptN hb1 hbx))
        | (go_at_call 34; refine (H1.out _).mono ?_; rintro e w2 ⟨rfl, rfl⟩))
      go_ret
      exact ⟨rtw (by rw [HU.out]), HB.out.trans (hb1.mono (by simp))⟩
set_option maxHeartbeats 4000000 in
set_option maxRecDepth 100000 in
theorem luses_any (x : Ins) (w : World) : Calls Tryz.prog 16 #[insV x] w fun e w' => e = .returned (.int .u32 ((usesB x).toNat : Int)) ∧ Below w.heap.size w w' := by
  obtain ⟨op, rd, rs1, rs2, imm⟩ := x
  have HB := hideE ((Below.refl _ w).alloc (Nat.le_refl _) (.cells #[.int .i64 op, .int .i64 rd, .int .i64 rs1, .int .i64 rs2, .int .i64 imm] 38))
  have hbx := inst_box w op rd rs1 rs2 imm
  obtain ⟨r, hr⟩ : ∃ r, right op rd rs1 rs2 imm = r := ⟨_, rfl⟩
  have HR := hideE (fun W => hr ▸ right_any op rd rs1 rs2 imm W)
  have HRI : Hid (rightI ⟨op, rd, rs1, rs2, imm⟩ = r) := hr
  clear hr
  simp only [insV]
  cases r
  · have HU := hideE (us_no (x := ⟨op, rd, rs1, rs2, imm⟩) (.inl HRI.out))
    go_enter Tryz.func16, Tryz.ntmps16
    go_wp2_with (go_at_call 33; refine (HR.out _).mono ?_; rintro e w1 ⟨rfl, hb1⟩; obtain ⟨c0, c1, c2, c3, c4⟩ := five (keptN hb1 hbx))
    go_ret
    exact ⟨rtw HU.out.symm, HB.out.trans (hb1.mono (by simp))⟩
  · by_cases h3 : op = 3
    · have HU := hideE (us_no (x := ⟨op, rd, rs1, rs2, imm⟩) (.inr (.inl h3)))
      subst h3
      go_enter Tryz.func16, Tryz.ntmps16
      go_wp2_with (go_at_call 33; refine (HR.out _).mono ?_; rintro e w1 ⟨rfl, hb1⟩; obtain ⟨c0, c1, c2, c3, c4⟩ := five (keptN hb1 hbx))
      go_ret
      exact ⟨rtw HU.out.symm, HB.out.trans (hb1.mono (by simp))⟩
    · have q3 : (op == 3) = false := beq_eq_false_iff_ne.2 h3
      by_cases h46 : op = 46
      · have HU := hideE (us_no (x := ⟨op, rd, rs1, rs2, imm⟩) (.inr (.inr h46)))
        subst h46
        go_enter Tryz.func16, Tryz.ntmps16
        go_wp2_with (go_at_call 33; refine (HR.out _).mono ?_; rintro e w1 ⟨rfl, hb1⟩; obtain ⟨c0, c1, c2, c3, c4⟩ := five (keptN hb1 hbx))
        go_ret
        exact ⟨rtw HU.out.symm, HB.out.trans (hb1.mono (by simp))⟩
      · have q46 : (op == 46) = false := beq_eq_false_iff_ne.2 h46
        have hno : ¬ (rightI ⟨op, rd, rs1, rs2, imm⟩ = false ∨ op = 3 ∨ op = 46) := by
          rw [HRI.out]; rintro (e | e | e)
          · cases e
          · exact h3 e
          · exact h46 e
        by_cases h45 : op = 45
        · have HU := hideE (us_call (x := ⟨op, rd, rs1, rs2, imm⟩) hno h45)
          clear hno
          subst h45
          go_enter Tryz.func16, Tryz.ntmps16
          go_wp2_with (go_at_call 33; refine (HR.out _).mono ?_; rintro e w1 ⟨rfl, hb1⟩; obtain ⟨c0, c1, c2, c3, c4⟩ := five (keptN hb1 hbx))
          go_ret
          exact ⟨rtw HU.out.symm, HB.out.trans (hb1.mono (by simp))⟩
        · have q45 : (op == 45) = false := beq_eq_false_iff_ne.2 h45
          have HU := hideE (us_two (x := ⟨op, rd, rs1, rs2, imm⟩) hno h45)
          have hg := right_regs HRI.out
          have H1 := hideE (fun W => lbit_any rs1 hg.2.2.1 hg.2.2.2.1 W)
          have H2 := hideE (fun W => lbit_any rs2 hg.2.2.2.2.1 hg.2.2.2.2.2 W)
          clear hno h3 h46 h45 hg
          go_enter Tryz.func16, Tryz.ntmps16
          go_upto_region 7 with (go_at_call 33; refine (HR.out _).mono ?_; rintro e w1 ⟨rfl, hb1⟩; obtain ⟨c0, c1, c2, c3, c4⟩ := five (keptN hb1 hbx))
          have HL := hideE (HB.out.trans (hb1.mono (by simp)))
          clear HB hb1 HR
          go_region_with (go_at_call 34; first | (refine (H1.out _).mono ?_; rintro e w2 ⟨rfl, rfl⟩) | (refine (H2.out _).mono ?_; rintro e w3 ⟨rfl, rfl⟩))
          all_goals
            go_wp2_with fail
            go_ret
            exact ⟨rtw (by rw [Wd.or_, HU.out]), HL.out.trans (Below.refl _ _).drew⟩
end Go.Proofs.YtcffpmicencfpabGreat
