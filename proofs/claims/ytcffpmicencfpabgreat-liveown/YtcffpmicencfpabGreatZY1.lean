/-
  Which registers count, as plain words of 32 bits: what an instruction needs and sets, and what counts ahead of instructions. No program in sight.
  The least registers, block by block: what a list of blocks flows into; rounds from none on come to it. No program in sight.
  What the laws of layer 9 ask of plain words: what does not count makes no difference, bits counted. No program in sight.
-/

import Derived.Test.YtcffpmicencfpabGreatZC9
import Derived.Test.YtcffpmicencfpabGreatZa
set_option linter.unusedVariables false
namespace Go.Proofs.YtcffpmicencfpabGreat
namespace Lv
open Bl Ip

def allB : BitVec 32 := (BitVec.ofNat 32 4294967294)
def oneB (r : Int) : BitVec 32 := if r = 0 then (BitVec.ofNat 32 0) else (BitVec.ofNat 32 1) <<< r.toNat
def usesB (x : Ins) : BitVec 32 := if rightI x = false ∨ x.op = 3 ∨ x.op = 46 then allB else if x.op = 45 then (BitVec.ofNat 32 261120) else oneB x.rs1 ||| oneB x.rs2
def setsB (x : Ins) : BitVec 32 := if rightI x = false then (BitVec.ofNat 32 0) else if x.op = 45 then (BitVec.ofNat 32 1024) else oneB x.rd
def stepB (x : Ins) (n : BitVec 32) : BitVec 32 := (n &&& ~~~ setsB x) ||| usesB x
def evenB (n : BitVec 32) : BitVec 32 := n &&& allB
def backB (l : List Ins) (n : BitVec 32) : BitVec 32 := l.foldr stepB (evenB n)

/-- The bits of one are among those of the other. -/
def leB (a b : BitVec 32) : Prop := ∀ i, a.getLsbD i = true → b.getLsbD i = true
theorem leB_refl (a : BitVec 32) : leB a a := fun _ h => h
theorem leB_trans {a b c : BitVec 32} (h : leB a b) (h' : leB b c) : leB a c := fun i hi => h' i (h i hi)
theorem leB_anti {a b : BitVec 32} (h : leB a b) (h' : leB b a) : a = b := by
  apply BitVec.eq_of_getLsbD_eq
  intro i _
  rw [Bool.eq_iff_iff]
  exact ⟨h i, h' i⟩
theorem leB_zero (a : BitVec 32) : leB (BitVec.ofNat 32 0) a := fun i h => by simp at h
theorem leB_or {a b c d : BitVec 32} (h : leB a b) (h' : leB c d) : leB (a ||| c) (b ||| d) := fun i hi => by
  rw [BitVec.getLsbD_or, Bool.or_eq_true] at hi ⊢
  exact hi.elim (fun e => .inl (h i e)) (fun e => .inr (h' i e))
theorem leB_and {a b : BitVec 32} (m : BitVec 32) (h : leB a b) : leB (a &&& m) (b &&& m) := fun i hi => by
  rw [BitVec.getLsbD_and, Bool.and_eq_true] at hi ⊢
  exact ⟨h i hi.1, hi.2⟩
theorem leB_andNot {a b : BitVec 32} (h : leB a b) : a &&& ~~~ b = (BitVec.ofNat 32 0) := by
  apply BitVec.eq_of_getLsbD_eq
  intro i hi
  have := h i
  simp only [BitVec.getLsbD_and, BitVec.getLsbD_not, hi, decide_true, Bool.true_and, BitVec.getLsbD_zero]
  cases e : a.getLsbD i with
  | false => simp
  | true => rw [this e]; simp
theorem all_get (i : Nat) : allB.getLsbD i = (decide (i < 32) && decide (i ≠ 0)) := by
  by_cases h : i < 32
  · have : ∀ j, j < 32 → allB.getLsbD j = (decide (j < 32) && decide (j ≠ 0)) := by decide
    exact this i h
  · rw [BitVec.getLsbD_of_ge _ _ (by omega), decide_eq_false h]; rfl
theorem one_low (r : Int) (h0 : 0 ≤ r) : (oneB r).getLsbD 0 = false := by
  unfold oneB
  split
  · simp
  · rw [BitVec.getLsbD_shiftLeft]
    have : r.toNat ≠ 0 := by omega
    simp [Nat.pos_of_ne_zero this]
theorem fit_32 {r : Int} {b : Bool} (h : fit r b = true) : 0 ≤ r ∧ r < 32 := by
  unfold fit at h
  split at h
  · have := of_decide_eq_true h; omega
  · have := of_decide_eq_true h; omega
theorem right_regs {x : Ins} (h : rightI x = true) : 0 ≤ x.rd ∧ x.rd < 32 ∧ 0 ≤ x.rs1 ∧ x.rs1 < 32 ∧ 0 ≤ x.rs2 ∧ x.rs2 < 32 := by
  unfold rightI right at h
  simp only [Bool.and_eq_true] at h
  have h1 := fit_32 h.1.1.1.2
  have h2 := fit_32 h.1.1.2
  have h3 := fit_32 h.1.2
  exact ⟨h1.1, h1.2, h2.1, h2.2, h3.1, h3.2⟩
theorem uses_low (x : Ins) : (usesB x).getLsbD 0 = false := by
  unfold usesB
  split
  · decide
  · split
    · decide
    · rename_i h _
      have hr : rightI x = true := by
        cases e : rightI x with
        | true => rfl
        | false => exact absurd (.inl e) h
      have := right_regs hr
      rw [BitVec.getLsbD_or, one_low _ this.2.2.1, one_low _ this.2.2.2.2.1]; rfl
theorem sets_low (x : Ins) : (setsB x).getLsbD 0 = false := by
  unfold setsB
  split
  · simp
  · split
    · decide
    · rename_i h _
      have hr : rightI x = true := by simpa using h
      exact one_low _ (right_regs hr).1
theorem even_low (n : BitVec 32) : (evenB n).getLsbD 0 = false := by
  unfold evenB; rw [BitVec.getLsbD_and, all_get]; simp
theorem step_low (x : Ins) (n : BitVec 32) (h : n.getLsbD 0 = false) : (stepB x n).getLsbD 0 = false := by
  unfold stepB
  rw [BitVec.getLsbD_or, BitVec.getLsbD_and, h, uses_low]; rfl
theorem back_low (l : List Ins) (n : BitVec 32) : (backB l n).getLsbD 0 = false := by
  unfold backB
  induction l with
  | nil => exact even_low n
  | cons x l ih => exact step_low x _ ih
theorem even_of_low {n : BitVec 32} (h : n.getLsbD 0 = false) : evenB n = n := by
  apply BitVec.eq_of_getLsbD_eq
  intro i hi
  unfold evenB
  rw [BitVec.getLsbD_and, all_get, decide_eq_true hi, Bool.true_and]
  by_cases e : i = 0
  · subst e; rw [h]; rfl
  · simp [e]
theorem back_nil (n : BitVec 32) : backB [] n = evenB n := rfl
theorem back_cons (x : Ins) (l : List Ins) (n : BitVec 32) : backB (x :: l) n = stepB x (backB l n) := rfl
theorem back_app (a b : List Ins) (n : BitVec 32) : backB (a ++ b) n = backB a (backB b n) := by
  have h := even_of_low (back_low b n)
  unfold backB at h ⊢
  rw [List.foldr_append, h]
theorem step_mono (x : Ins) {a b : BitVec 32} (h : leB a b) : leB (stepB x a) (stepB x b) := leB_or (leB_and _ h) (leB_refl _)
theorem back_mono (l : List Ins) {a b : BitVec 32} (h : leB a b) : leB (backB l a) (backB l b) := by
  unfold backB
  induction l with
  | nil => exact leB_and _ h
  | cons x l ih => exact step_mono x ih
/-- As the document has it: what is set is taken away. -/
theorem sub_and (n s : BitVec 32) : n - (n &&& s) = n &&& ~~~ s := by
  have h0 : (n &&& ~~~ s) &&& (n &&& s) = (BitVec.ofNat 32 0) := by
    apply BitVec.eq_of_getLsbD_eq
    intro i hi
    simp only [BitVec.getLsbD_and, BitVec.getLsbD_not, hi, decide_true, Bool.true_and, BitVec.getLsbD_zero]
    cases n.getLsbD i <;> cases s.getLsbD i <;> rfl
  have h1 : (n &&& ~~~ s) + (n &&& s) = n := by
    rw [BitVec.add_eq_or_of_and_eq_zero _ _ h0]
    apply BitVec.eq_of_getLsbD_eq
    intro i hi
    simp only [BitVec.getLsbD_or, BitVec.getLsbD_and, BitVec.getLsbD_not, hi, decide_true, Bool.true_and]
    cases n.getLsbD i <;> cases s.getLsbD i <;> rfl
  conv => lhs; lhs; rw [← h1]
  rw [BitVec.add_sub_cancel]
theorem low_mod (n : BitVec 32) : (n &&& (BitVec.ofNat 32 1)).toNat = n.toNat % 2 := by
  rw [BitVec.toNat_and]
  exact Nat.and_two_pow_sub_one_eq_mod _ 1
theorem even_sub (n : BitVec 32) : ((evenB n).toNat : Int) = (n.toNat : Int) - (n.toNat : Int) % 2 := by
  have h := sub_and n (BitVec.ofNat 32 1)
  have e : evenB n = n - (n &&& (BitVec.ofNat 32 1)) := by rw [h]; unfold evenB allB; rfl
  rw [e, BitVec.toNat_sub, low_mod]
  have := n.isLt
  omega
end Lv
end Go.Proofs.YtcffpmicencfpabGreat
set_option linter.unusedVariables false
namespace Go.Proofs.YtcffpmicencfpabGreat
namespace Lv
open Bl Ip

/-- Blocks as far as this goes: of each its instructions, the numbers of those behind it, whether all counts behind it. -/
structure Fw where
  n : Nat
  code : Nat → List Ins
  next : Nat → List Nat
  loose : Nat → Bool
def orL (A : List (BitVec 32)) (l : List Nat) : BitVec 32 := l.foldl (fun m j => m ||| A.getD j (BitVec.ofNat 32 0)) (BitVec.ofNat 32 0)
def behF (F : Fw) (A : List (BitVec 32)) (k : Nat) : BitVec 32 := if F.loose k = true then allB else orL A (F.next k)
def ahdF (F : Fw) (A : List (BitVec 32)) (k : Nat) : BitVec 32 := backB (F.code k) (behF F A k)
/-- A list of words that stays. -/
structure FixF (F : Fw) (A : List (BitVec 32)) : Prop where
  len : A.length = F.n
  fix : ∀ k, k < F.n → A.getD k (BitVec.ofNat 32 0) = ahdF F A k
def leL (A A' : List (BitVec 32)) : Prop := ∀ k, leB (A.getD k (BitVec.ofNat 32 0)) (A'.getD k (BitVec.ofNat 32 0))
/-- The least one. -/
structure LeastF (F : Fw) (A : List (BitVec 32)) : Prop where
  fx : FixF F A
  least : ∀ A', FixF F A' → leL A A'
theorem leL_refl (A : List (BitVec 32)) : leL A A := fun k => leB_refl _
theorem leL_trans {A B C : List (BitVec 32)} (h : leL A B) (h' : leL B C) : leL A C := fun k => leB_trans (h k) (h' k)
theorem list_getD_ext {A A' : List (BitVec 32)} (hl : A.length = A'.length) (h : ∀ k, A.getD k (BitVec.ofNat 32 0) = A'.getD k (BitVec.ofNat 32 0)) : A = A' := by
  apply List.ext_getElem hl
  intro k h1 h2
  have := h k
  rw [List.getD_eq_getElem?_getD, List.getD_eq_getElem?_getD, List.getElem?_eq_getElem h1, List.getElem?_eq_getElem h2] at this
  exact this
theorem leL_anti {A A' : List (BitVec 32)} (hl : A.length = A'.length) (h : leL A A') (h' : leL A' A) : A = A' := list_getD_ext hl fun k => leB_anti (h k) (h' k)
theorem LeastF.same {F : Fw} {A A' : List (BitVec 32)} (h : LeastF F A) (h' : LeastF F A') : A = A' := leL_anti (h.fx.len.trans h'.fx.len.symm) (h.least _ h'.fx) (h'.least _ h.fx)
theorem or_mono {A A' : List (BitVec 32)} (h : leL A A') (l : List Nat) : ∀ {m m' : BitVec 32}, leB m m' → leB (l.foldl (fun m j => m ||| A.getD j (BitVec.ofNat 32 0)) m) (l.foldl (fun m j => m ||| A'.getD j (BitVec.ofNat 32 0)) m') := by
  induction l with
  | nil => intro m m' hm; exact hm
  | cons j l ih => intro m m' hm; exact ih (leB_or hm (h j))
theorem beh_mono {F : Fw} {A A' : List (BitVec 32)} (h : leL A A') (k : Nat) : leB (behF F A k) (behF F A' k) := by
  unfold behF
  split
  · exact leB_refl _
  · exact or_mono h _ (leB_refl _)
theorem ahd_mono {F : Fw} {A A' : List (BitVec 32)} (h : leL A A') (k : Nat) : leB (ahdF F A k) (ahdF F A' k) := back_mono _ (beh_mono h k)
/-- A round: all at once. -/
def roundF (F : Fw) (A : List (BitVec 32)) : List (BitVec 32) := (List.range F.n).map (ahdF F A)
def behL (F : Fw) (A : List (BitVec 32)) : List (BitVec 32) := (List.range F.n).map (behF F A)
theorem round_len (F : Fw) (A : List (BitVec 32)) : (roundF F A).length = F.n := by unfold roundF; simp
theorem map_getD (n : Nat) (f : Nat → BitVec 32) (k : Nat) : ((List.range n).map f).getD k (BitVec.ofNat 32 0) = if k < n then f k else (BitVec.ofNat 32 0) := by
  rw [List.getD_eq_getElem?_getD, List.getElem?_map]
  by_cases h : k < n
  · rw [if_pos h, List.getElem?_eq_getElem (by simpa using h)]; simp
  · rw [if_neg h, List.getElem?_eq_none (by simp; omega)]; rfl
theorem round_getD (F : Fw) (A : List (BitVec 32)) (k : Nat) : (roundF F A).getD k (BitVec.ofNat 32 0) = if k < F.n then ahdF F A k else (BitVec.ofNat 32 0) := map_getD _ _ _
/-- What holds from none on: below each that stays, and below its own round. -/
structure Up (F : Fw) (A : List (BitVec 32)) : Prop where
  len : A.length = F.n
  low : ∀ A', FixF F A' → leL A A'
  up : leL A (roundF F A)
theorem getD_none {A : List (BitVec 32)} {k : Nat} (h : A.length ≤ k) : A.getD k (BitVec.ofNat 32 0) = (BitVec.ofNat 32 0) := by
  rw [List.getD_eq_getElem?_getD, List.getElem?_eq_none h]; rfl
theorem up_zero (F : Fw) : Up F (List.replicate F.n (BitVec.ofNat 32 0)) := by
  have h0 : ∀ k, (List.replicate F.n (BitVec.ofNat 32 0)).getD k (BitVec.ofNat 32 0) = (BitVec.ofNat 32 0) := fun k => by
    rw [List.getD_eq_getElem?_getD, List.getElem?_replicate]
    split <;> rfl
  exact ⟨by simp, fun A' _ k => by rw [h0]; exact leB_zero _, fun k => by rw [h0]; exact leB_zero _⟩
theorem Up.round {F : Fw} {A : List (BitVec 32)} (h : Up F A) : Up F (roundF F A) := by
  refine ⟨round_len F A, fun A' hA k => ?_, fun k => ?_⟩
  · rw [round_getD]
    split
    · rename_i hk
      rw [hA.fix k hk]
      exact ahd_mono (h.low A' hA) k
    · exact leB_zero _
  · rw [round_getD, round_getD]
    split
    · exact ahd_mono h.up k
    · exact leB_zero _
theorem Up.least {F : Fw} {A : List (BitVec 32)} (h : Up F A) (hs : roundF F A = A) : LeastF F A := by
  refine ⟨⟨h.len, fun k hk => ?_⟩, h.low⟩
  have := round_getD F A k
  rw [hs, if_pos hk] at this
  exact this
/-- Bits are counted. -/
def popB (a : BitVec 32) : Nat := (List.range 32).countP fun i => a.getLsbD i
theorem count_mono (f g : Nat → Bool) (l : List Nat) (h : ∀ i, f i = true → g i = true) : l.countP f ≤ l.countP g := by
  induction l with
  | nil => exact Nat.le_refl _
  | cons a l ih =>
    rw [List.countP_cons, List.countP_cons]
    have := h a
    cases e : f a with
    | true => rw [this e]; simp; exact ih
    | false => simp; omega
theorem count_lt (f g : Nat → Bool) (l : List Nat) (h : ∀ i, f i = true → g i = true) (hx : ∃ i ∈ l, f i = false ∧ g i = true) : l.countP f < l.countP g := by
  induction l with
  | nil => obtain ⟨i, hi, _⟩ := hx; simp at hi
  | cons a l ih =>
    rw [List.countP_cons, List.countP_cons]
    obtain ⟨i, hi, h1, h2⟩ := hx
    have hm := count_mono f g l h
    rcases List.mem_cons.1 hi with rfl | hi
    · rw [h1, h2]; simp; omega
    · have := ih ⟨i, hi, h1, h2⟩
      have hh := h a
      cases e : f a with
      | true => rw [hh e]; simp; exact this
      | false => simp; omega
theorem pop_mono {a b : BitVec 32} (h : leB a b) : popB a ≤ popB b := count_mono _ _ _ h
theorem pop_lt {a b : BitVec 32} (h : leB a b) (hne : a ≠ b) : popB a < popB b := by
  refine count_lt _ _ _ h ?_
  by_cases hx : ∃ i ∈ List.range 32, a.getLsbD i = false ∧ b.getLsbD i = true
  · exact hx
  · exfalso
    apply hne
    apply BitVec.eq_of_getLsbD_eq
    intro i hi
    cases e : a.getLsbD i with
    | true => exact (h i e).symm
    | false =>
      cases e2 : b.getLsbD i with
      | false => rfl
      | true => exact absurd ⟨i, List.mem_range.2 hi, e, e2⟩ hx
theorem pop_top (a : BitVec 32) : popB a ≤ 32 := by
  unfold popB
  have := List.countP_le_length (p := fun i => a.getLsbD i) (l := List.range 32)
  rwa [List.length_range] at this
def popL (A : List (BitVec 32)) : Nat := (A.map popB).sum
theorem popL_top (A : List (BitVec 32)) : popL A ≤ 32 * A.length := by
  unfold popL
  induction A with
  | nil => simp
  | cons a A ih =>
    have := pop_top a
    rw [List.map_cons, List.sum_cons, List.length_cons]; omega
theorem popL_le {A B : List (BitVec 32)} (hl : A.length = B.length) (h : leL A B) : popL A ≤ popL B := by
  unfold popL
  induction A generalizing B with
  | nil => simp
  | cons a A ih =>
    cases B with
    | nil => simp at hl
    | cons b B =>
      have h0 : leB a b := h 0
      have := ih (B := B) (by simpa using hl) (fun k => h (k + 1))
      have h1 := pop_mono h0
      rw [List.map_cons, List.map_cons, List.sum_cons, List.sum_cons]; omega
theorem popL_lt {A B : List (BitVec 32)} (hl : A.length = B.length) (h : leL A B) (hne : A ≠ B) : popL A < popL B := by
  induction A generalizing B with
  | nil =>
    cases B with
    | nil => exact absurd rfl hne
    | cons b B => simp at hl
  | cons a A ih =>
    cases B with
    | nil => simp at hl
    | cons b B =>
      have h0 : leB a b := h 0
      have hl' : A.length = B.length := by simpa using hl
      have hk : leL A B := fun k => h (k + 1)
      have h1 := pop_mono h0
      have h2 := popL_le hl' hk
      unfold popL at h2 ⊢
      rw [List.map_cons, List.map_cons, List.sum_cons, List.sum_cons]
      by_cases e : a = b
      · subst e
        have h3 := ih hl' hk (fun e => hne (by rw [e]))
        unfold popL at h3
        omega
      · have := pop_lt h0 e
        omega
/-- One word of the list made anew, of what stands behind it: what a program may do, block by block. -/
structure Dn (F : Fw) (A : List (BitVec 32)) : Prop where
  len : A.length = F.n
  low : ∀ A', FixF F A' → leL A A'
  up : ∀ k, k < F.n → leB (A.getD k (BitVec.ofNat 32 0)) (ahdF F A k)
theorem dn_zero (F : Fw) : Dn F (List.replicate F.n (BitVec.ofNat 32 0)) := by
  have h := up_zero F
  refine ⟨h.len, h.low, fun k hk => ?_⟩
  have := h.up k
  rw [round_getD, if_pos hk] at this
  exact this
theorem set_getD (A : List (BitVec 32)) (k j : Nat) (x : BitVec 32) : (A.set k x).getD j (BitVec.ofNat 32 0) = if k = j ∧ k < A.length then x else A.getD j (BitVec.ofNat 32 0) := by
  rw [List.getD_eq_getElem?_getD, List.getD_eq_getElem?_getD, List.getElem?_set]
  by_cases h : k = j
  · subst h
    by_cases h2 : k < A.length
    · rw [if_pos rfl, if_pos h2, if_pos ⟨rfl, h2⟩]; rfl
    · rw [if_pos rfl, if_neg h2, if_neg (fun e => h2 e.2), List.getElem?_eq_none (by omega)]
  · rw [if_neg h, if_neg (fun e => h e.1)]
theorem Dn.set {F : Fw} {A : List (BitVec 32)} (h : Dn F A) {k : Nat} (hk : k < F.n) : Dn F (A.set k (ahdF F A k)) ∧ leL A (A.set k (ahdF F A k)) := by
  have hle : leL A (A.set k (ahdF F A k)) := fun j => by
    rw [set_getD]
    split
    · rename_i e; rw [← e.1]; exact h.up k hk
    · exact leB_refl _
  refine ⟨⟨by rw [List.length_set]; exact h.len, fun A' hA j => ?_, fun j hj => ?_⟩, hle⟩
  · rw [set_getD]
    split
    · rename_i e
      rw [← e.1, hA.fix k hk]
      exact ahd_mono (h.low A' hA) k
    · exact h.low A' hA j
  · rw [set_getD]
    split
    · rename_i e; rw [← e.1]; exact ahd_mono hle k
    · exact leB_trans (h.up j hj) (ahd_mono hle j)
theorem Dn.least {F : Fw} {A : List (BitVec 32)} (h : Dn F A) (hs : ∀ k, k < F.n → ahdF F A k = A.getD k (BitVec.ofNat 32 0)) : LeastF F A := ⟨⟨h.len, fun k hk => (hs k hk).symm⟩, h.low⟩
end Lv
end Go.Proofs.YtcffpmicencfpabGreat
set_option linter.unusedVariables false
namespace Go.Proofs.YtcffpmicencfpabGreat
namespace Lv
open Bl Ip

theorem step_get (x : Ins) (n : BitVec 32) (i : Nat) (hi : i < 32) : (stepB x n).getLsbD i = (n.getLsbD i && !(setsB x).getLsbD i || (usesB x).getLsbD i) := by
  unfold stepB
  rw [BitVec.getLsbD_or, BitVec.getLsbD_and, BitVec.getLsbD_not, decide_eq_true hi, Bool.true_and]
theorem even_get (n : BitVec 32) (i : Nat) (hi : i < 32) : (evenB n).getLsbD i = (n.getLsbD i && decide (i ≠ 0)) := by
  unfold evenB
  rw [BitVec.getLsbD_and, all_get, decide_eq_true hi, Bool.true_and]
/-- LiveDead, bit by bit. -/
theorem dead_uses (x : Ins) (n : BitVec 32) : backB [x] n &&& usesB x = usesB x := by
  apply BitVec.eq_of_getLsbD_eq
  intro i hi
  rw [back_cons, BitVec.getLsbD_and, step_get _ _ _ hi]
  cases (usesB x).getLsbD i <;> simp
theorem dead_sets (x : Ins) (n : BitVec 32) : backB [x] n &&& setsB x &&& ~~~ usesB x = (BitVec.ofNat 32 0) := by
  apply BitVec.eq_of_getLsbD_eq
  intro i hi
  rw [back_cons, BitVec.getLsbD_and, BitVec.getLsbD_and, BitVec.getLsbD_not, step_get _ _ _ hi, decide_eq_true hi]
  cases (usesB x).getLsbD i <;> cases (setsB x).getLsbD i <;> simp
theorem dead_else (x : Ins) (n : BitVec 32) : (backB [x] n ^^^ n) &&& ~~~ (usesB x ||| setsB x ||| (BitVec.ofNat 32 1)) = (BitVec.ofNat 32 0) := by
  apply BitVec.eq_of_getLsbD_eq
  intro i hi
  rw [back_cons, back_nil, BitVec.getLsbD_and, BitVec.getLsbD_xor, BitVec.getLsbD_not, BitVec.getLsbD_or, BitVec.getLsbD_or, step_get _ _ _ hi, even_get _ _ hi, decide_eq_true hi]
  by_cases h0 : i = 0
  · subst h0; simp
  · rw [decide_eq_true h0]
    cases (usesB x).getLsbD i <;> cases (setsB x).getLsbD i <;> cases n.getLsbD i <;> simp
theorem dead_low (x : Ins) : (usesB x ||| setsB x) &&& (BitVec.ofNat 32 1) = (BitVec.ofNat 32 0) := by
  apply BitVec.eq_of_getLsbD_eq
  intro i hi
  rw [BitVec.getLsbD_and, BitVec.getLsbD_or]
  by_cases h0 : i = 0
  · subst h0; rw [uses_low, sets_low]; simp
  · rw [show ((BitVec.ofNat 32 1)).getLsbD i = false by simp [h0]]; simp
theorem low_zero {n : BitVec 32} (h : n.getLsbD 0 = false) : n &&& (BitVec.ofNat 32 1) = (BitVec.ofNat 32 0) := by
  apply BitVec.eq_of_getLsbD_eq
  intro i hi
  rw [BitVec.getLsbD_and]
  by_cases h0 : i = 0
  · subst h0; rw [h]; simp
  · rw [show ((BitVec.ofNat 32 1)).getLsbD i = false by simp [h0]]; simp
/-- LiveMore. -/
theorem more_full (l : List Ins) (n : BitVec 32) : backB l n &&& ~~~ backB l (BitVec.ofNat 32 4294967295) = (BitVec.ofNat 32 0) := by
  refine leB_andNot (back_mono l fun i hi => ?_)
  have h32 : i < 32 := by
    by_cases h : i < 32
    · exact h
    · rw [BitVec.getLsbD_of_ge _ _ (by omega)] at hi; cases hi
  have : ∀ j, j < 32 → ((BitVec.ofNat 32 4294967295)).getLsbD j = true := by decide
  exact this i h32
theorem even_andNot (n : BitVec 32) : evenB n = n &&& ~~~ (BitVec.ofNat 32 1) := rfl

/-! ### bits counted -/
def cntK (u : BitVec 32) (k : Nat) : Nat := (List.range k).countP fun i => u.getLsbD i
theorem cntK_zero (u : BitVec 32) : cntK u 0 = 0 := rfl
theorem cntK_succ (u : BitVec 32) (k : Nat) : cntK u (k + 1) = cntK u k + (if u.getLsbD k = true then 1 else 0) := by
  unfold cntK
  rw [List.range_succ, List.countP_append, List.countP_cons, List.countP_nil]
  cases u.getLsbD k <;> simp
theorem cntK_top (u : BitVec 32) : cntK u 32 = popB u := rfl
theorem cntK_le (u : BitVec 32) (k : Nat) : cntK u k ≤ k := by
  unfold cntK
  have := List.countP_le_length (p := fun i => u.getLsbD i) (l := List.range k)
  rwa [List.length_range] at this
theorem count_or (f g : Nat → Bool) (l : List Nat) : (l.countP fun i => f i || g i) ≤ l.countP f + l.countP g := by
  induction l with
  | nil => simp
  | cons a l ih =>
    rw [List.countP_cons, List.countP_cons, List.countP_cons]
    cases f a <;> cases g a <;> simp <;> omega
theorem pop_or (a b : BitVec 32) : popB (a ||| b) ≤ popB a + popB b := by
  unfold popB
  have h := count_or (fun i => a.getLsbD i) (fun i => b.getLsbD i) (List.range 32)
  have e : (fun i => (a ||| b).getLsbD i) = fun i => a.getLsbD i || b.getLsbD i := by funext i; rw [BitVec.getLsbD_or]
  rw [e]; exact h
theorem pop_one (r : Int) (h0 : 0 ≤ r) (h1 : r < 32) : popB (oneB r) ≤ 1 := by
  have h : ∀ k, k < 32 → popB (oneB (k : Nat)) ≤ 1 := by decide +kernel
  have := h r.toNat (by omega)
  rwa [Int.toNat_of_nonneg h0] at this
theorem one_pow (r : Int) (h0 : 0 ≤ r) (h1 : r < 32) : oneB r &&& (oneB r - (BitVec.ofNat 32 1)) = (BitVec.ofNat 32 0) := by
  have h : ∀ k, k < 32 → oneB (k : Nat) &&& (oneB (k : Nat) - (BitVec.ofNat 32 1)) = (BitVec.ofNat 32 0) := by decide +kernel
  have := h r.toNat (by omega)
  rwa [Int.toNat_of_nonneg h0] at this
theorem loose_sets (x : Ins) : setsB x &&& (setsB x - (BitVec.ofNat 32 1)) = (BitVec.ofNat 32 0) := by
  unfold setsB
  split
  · decide
  · split
    · decide
    · rename_i h _
      have hr : rightI x = true := by simpa using h
      have := right_regs hr
      exact one_pow _ this.1 this.2.1
theorem loose_uses (x : Ins) : popB (usesB x) ≤ 2 ∨ (popB (usesB x) = 8 ∧ x.op = 45) ∨ popB (usesB x) = 31 := by
  unfold usesB
  split
  · exact .inr (.inr (by decide +kernel))
  · split
    · rename_i h; exact .inr (.inl ⟨by decide +kernel, h⟩)
    · rename_i h _
      have hr : rightI x = true := by
        cases e : rightI x with
        | true => rfl
        | false => exact absurd (.inl e) h
      have hg := right_regs hr
      have h1 := pop_one x.rs1 hg.2.2.1 hg.2.2.2.1
      have h2 := pop_one x.rs2 hg.2.2.2.2.1 hg.2.2.2.2.2
      have h3 := pop_or (oneB x.rs1) (oneB x.rs2)
      exact .inl (by omega)
end Lv
end Go.Proofs.YtcffpmicencfpabGreat
