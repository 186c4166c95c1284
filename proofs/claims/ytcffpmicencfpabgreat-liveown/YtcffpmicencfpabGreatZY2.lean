/-
  What Find of layer 9 answers, plainly: of an image and its blocks the flow, and the least registers. No program in sight.
-/

import Derived.Test.YtcffpmicencfpabGreatZC8
import Derived.Test.YtcffpmicencfpabGreatZY1
set_option linter.unusedVariables false
namespace Go.Proofs.YtcffpmicencfpabGreat
namespace Lv
open Bl Ip Pm

def codeI (i : Img) (b : Nat × Nat) : List Ins := (List.range b.2).map fun j => insA i ((b.1 + 4 * j) % 4294967296)
def looseX (x : Ins) (away : Bool) : Bool := away || (decide (x.op = 46) || ((decide (x.op = 2) || decide (x.op = 3)) && decide (x.rd ≠ 0)))
def blkAt (l : List (Nat × Nat)) (k : Nat) : Nat × Nat := l.getD k (0, 0)
def flowI (i : Img) (l : List (Nat × Nat)) : Fw := ⟨l.length, fun k => codeI i (blkAt l k), fun k => (nextV i l (k : Int)).1, fun k => looseX (insA i (lastA (blkAt l k))) (nextV i l (k : Int)).2⟩
def natL (A : List (BitVec 32)) : List Nat := A.map BitVec.toNat
/-- Are blocks those of a text? -/
def rightP (i : Img) (l : List (Nat × Nat)) : Prop := AnsF (txI i) (seedsI i (l.map Prod.fst)) 0 l
def AnsL (i : Img) (l : List (Nat × Nat)) (a b : List Nat) (e : Nat) : Prop :=
  (rightP i l ∧ e = 0 ∧ ∃ A, LeastF (flowI i l) A ∧ a = natL A ∧ b = natL (behL (flowI i l) A)) ∨ (¬ rightP i l ∧ e = 1 ∧ a = [] ∧ b = [])
theorem AnsL.same {i : Img} {l : List (Nat × Nat)} {a b a' b' : List Nat} {e e' : Nat} (h : AnsL i l a b e) (h' : AnsL i l a' b' e') : a = a' ∧ b = b' ∧ e = e' := by
  rcases h with ⟨hr, rfl, A, hA, rfl, rfl⟩ | ⟨hr, rfl, rfl, rfl⟩ <;> rcases h' with ⟨hr', rfl, A', hA', rfl, rfl⟩ | ⟨hr', rfl, rfl, rfl⟩
  · rw [hA.same hA']; exact ⟨rfl, rfl, rfl⟩
  · exact absurd hr hr'
  · exact absurd hr' hr
  · exact ⟨rfl, rfl, rfl⟩
theorem natL_len (A : List (BitVec 32)) : (natL A).length = A.length := by unfold natL; simp
theorem natL_get (A : List (BitVec 32)) (k : Nat) : (natL A)[k]? = (A[k]?).map BitVec.toNat := by unfold natL; rw [List.getElem?_map]
theorem natL_inj {A B : List (BitVec 32)} (h : natL A = natL B) : A = B := by
  have hl := congrArg List.length h
  rw [natL_len, natL_len] at hl
  apply List.ext_getElem hl
  intro k h1 h2
  have := congrArg (fun l => l[k]?) h
  simp only [natL_get, List.getElem?_eq_getElem h1, List.getElem?_eq_getElem h2, Option.map_some, Option.some.injEq] at this
  exact BitVec.eq_of_toNat_eq this
theorem next_in {i : Img} {l : List (Nat × Nat)} {k : Int} : ∀ j ∈ (nextV i l k).1, j < l.length := fun j hj => by
  unfold nextV at hj
  split at hj
  · exact List.mem_range.1 (List.mem_filter.1 hj).1
  · simp at hj
theorem code_len (i : Img) (b : Nat × Nat) : (codeI i b).length = b.2 := by unfold codeI; simp
theorem code_get (i : Img) (b : Nat × Nat) {j : Nat} (hj : j < b.2) : (codeI i b)[j]? = some (insA i ((b.1 + 4 * j) % 4294967296)) := by
  unfold codeI
  rw [List.getElem?_map, List.getElem?_range hj]; rfl
theorem code_last (i : Img) (b : Nat × Nat) (hb : 1 ≤ b.2) : (codeI i b)[b.2 - 1]? = some (insA i (lastA b)) := by
  rw [code_get i b (by omega)]; rfl
/-- What the rounds hold: rounds past, each of which has found a bit. -/
theorem round_on {F : Fw} {A : List (BitVec 32)} {r : Nat} (h : Up F A) (hr : r ≤ popL A) (hne : A ≠ roundF F A) : Up F (roundF F A) ∧ r + 1 ≤ popL (roundF F A) := by
  have h1 := popL_lt (h.len.trans (round_len F A).symm) h.up hne
  exact ⟨h.round, by omega⟩
theorem round_end {F : Fw} {A : List (BitVec 32)} {r : Nat} (h : Up F A) (hr : r ≤ popL A) : r ≤ 32 * F.n := by
  have := popL_top A
  rw [h.len] at this
  omega
theorem beh_round (F : Fw) (A : List (BitVec 32)) (h : roundF F A = A) : behL F A = behL F (roundF F A) := by rw [h]
end Lv
end Go.Proofs.YtcffpmicencfpabGreat
