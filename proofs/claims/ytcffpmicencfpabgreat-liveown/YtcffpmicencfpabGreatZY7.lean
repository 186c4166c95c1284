/-
  What layers above the blocks need of their answers.
-/

import Derived.Test.YtcffpmicencfpabGreatZD7
namespace Go.Proofs.YtcffpmicencfpabGreat
open Go.RowKit Go.Lib Go.Sort Go.Maps Ip Bl Pm
set_option linter.unusedSimpArgs false
set_option linter.unusedVariables false

theorem ownU_words {W : World} {B : Nat} {v : Value} {n : Nat} {xs : List Value} {l : List Nat} (h : W.ownsRow B 22 1 v n xs) (m : Nat) (hn : n = m) (hx : xs = l.map wordV) : W.ownsRow B 22 1 v m (l.map wordV) := by
  subst hn hx; exact h
theorem slwU_own {W : World} {B : Nat} {v : Value} {n : Nat} {l : List Nat} (h : W.ownsRow B 22 1 v n (l.map wordV)) (hn : l.length = n) : SlW W v l := by
  subst hn; exact slw_of_owns h
theorem ownU_below {W W' : World} {B : Nat} {t : TypeId} {s : Nat} {p : Option Addr} {m c n : Nat} {xs : List Value} (h : W.ownsRow B t s (.slice p m c) n xs) (hb : Below W.heap.size W W') : W'.ownsRow B t s (.slice p m c) n xs :=
  h.kept (grown_of_below hb) (by cases p <;> simp [Value.ownBlock])
theorem ownU_lo {W : World} {B : Nat} {t : TypeId} {s : Nat} {v : Value} {n : Nat} {xs : List Value} (h : W.ownsRow B t s v n xs) : ∀ k, v.ownBlock = some k → B ≤ k := fun k e => (h.lt k e).1
theorem fitU_of {i : Img} {es : List Nat} {l : List (Nat × Nat)} (hi : i.ok) (h : AnsF (txI i) (seedsI i es) 0 l) : FitB l := by
  have hw := whole_of hi h
  have hf := (AnsF.few h).1
  have hn : (txI i).n = i.words.length := rfl
  have h1 := hi.2.2.1
  refine ⟨?_, fun b hb => by have := hw.small b hb; omega, fun b hb => by have := hw.small b hb; omega, by omega⟩
  obtain ⟨L, hc, h0, hl⟩ := h
  rw [if_pos rfl] at hl
  obtain ⟨ht, -⟩ := tiles (txI i) (seedsI i es) L (txI i).n
  rw [hl]
  unfold RiseB adrL
  rw [List.pairwise_map]
  refine ht.rise.imp_of_mem fun {a b} ha hb hr => ?_
  have := (ht.pos a ha).1
  show (txI i).adr a.1 < (txI i).adr b.1
  unfold Tx.adr
  omega
theorem leU_of_nxt (i : Img) (l : List (Nat × Nat)) (k : Int) (h : FitB l) : (nextV i l k).1.length ≤ 4000000 := by
  have h1 := h.len
  unfold nextV
  split
  · show (nxtL l _).length ≤ _
    unfold nxtL
    have := List.length_filter_le (fun j => (aftI (insA i (lastA (l.getD k.toNat (0, 0)))) (lastA (l.getD k.toNat (0, 0)))).contains (l.getD j (0, 0)).1) (List.range l.length)
    rw [List.length_range] at this
    omega
  · simp
end Go.Proofs.YtcffpmicencfpabGreat
