/-
  A row's segment, whatever the row tells; a program under way in memory.
-/
import Derived.Test.YtkfomhllaogplaaEG
import Derived.Test.YtkfomhllaogplaaShelf
import Derived.Laws.OwnMore
import Derived.OwnWalk
namespace Go.Proofs.Ytkfomhllaogplaa
open Go.RowKit El Go.Lib
open Classical
set_option linter.unusedSimpArgs false

theorem ends_any {k : Int} (h : k ≠ 0) (u v : Value) : ends k u = ends k v := by rw [ends_odd h, ends_odd h]
theorem rowE_told {s : List UInt8} {p : Nat} (h : rowE s p ≠ 0) : Told (rowE s p) := by
  rcases rowE_among s p with e | e | e
  · exact absurd e h
  · rw [e]; unfold Told; simp
  · rw [e]; unfold Told; simp
theorem prs_told (s : List UInt8) : prsE s = 0 ∨ Told (prsE s) := by
  rcases prsE_among s with h | h | h | h | h | h <;> rw [h] <;> unfold Told <;> simp
theorem set_same (w : World) (b o : Nat) (v : Value) (h : w.cell? ⟨b, o, none⟩ = some v) : w.setCell ⟨b, o, none⟩ v = w := by
  have hh : (w.setCell ⟨b, o, none⟩ v).heap = w.heap := by
    apply Array.ext_getElem?
    intro i
    by_cases hi : i = b
    · subst hi
      unfold World.cell? at h
      cases hb : w.heap[i]? with
      | none => simp only [hb] at h; cases h
      | some x =>
        simp only [hb] at h
        cases x with
        | cells cs t fr =>
          simp at h
          simp only [World.setCell, Array.getElem?_modify, hb, if_true, Option.map_some]
          congr 2
          apply Array.ext_getElem?
          intro j
          show (cs.setIfInBounds o v)[j]? = cs[j]?
          rw [Array.getElem?_setIfInBounds]
          split
          · rename_i e; subst e
            split
            · exact h.symm
            · rename_i hn; rw [Array.getElem?_eq_none (by omega)]
          · rfl
        | _ => simp at h
    · exact set_other w _ v i hi
  unfold World.setCell at hh ⊢
  cases w
  simp only at hh ⊢
  rw [hh]
theorem rowsE_snoc (s : List UInt8) (p n : Nat) : rowsE s p (n + 1) = if rowsE s p n ≠ 0 then rowsE s p n else rowE s (p + 32 * n) := by
  induction n generalizing p with
  | zero =>
    simp only [rowsE, Nat.mul_zero, Nat.add_zero]
    by_cases h : rowE s p = 0 <;> simp [h]
  | succ n ih =>
    rw [rowsE, ih (p + 32), show p + 32 * (n + 1) = p + 32 + 32 * n by omega]
    conv => rhs; rw [rowsE]
    by_cases h : rowE s p = 0 <;> simp [h]
theorem rowsE_stop (s : List UInt8) (p : Nat) : ∀ (n k : Nat), k < n → rowsE s p k = 0 → rowE s (p + 32 * k) ≠ 0 → rowsE s p n = rowE s (p + 32 * k)
  | 0, k, h, _, _ => by omega
  | n + 1, k, h, h0, h1 => by
    rw [rowsE_snoc]
    by_cases e : k = n
    · subst e; rw [h0]; simp
    · rw [rowsE_stop s p n k (by omega) h0 h1, if_pos h1]
theorem segs_snoc (s : List UInt8) (p n : Nat) : segs s p (n + 1) = segs s p n ++ [segAt s (p + 32 * n)] := by
  induction n generalizing p with
  | zero => simp [segs]
  | succ n ih =>
    rw [segs, ih (p + 32)]
    conv => rhs; rw [segs]
    rw [show p + 32 + 32 * n = p + 32 * (n + 1) by omega]; rfl
abbrev Z3 : Array Value := #[.int .u32 0, .int .u32 0, .slice none 0 0]
/-- While program is at work: the answer's box and the program's. -/
structure PBox (w : World) (E F : Int) (W : World) : Prop where
  res : W.heap[w.heap.size]? = some (.cells Z3 25 (0, 0))
  box : ∃ v, W.heap[w.heap.size + 1]? = some (.cells #[.int .u32 E, .int .u32 F, v] 25 (0, 0))
  low : Below w.heap.size w W
structure PAt (w : World) (E F : Int) (v : Value) (l : List Seg) (W : World) : Prop where
  res : W.heap[w.heap.size]? = some (.cells Z3 25 (0, 0))
  box : W.heap[w.heap.size + 1]? = some (.cells #[.int .u32 E, .int .u32 F, v] 25 (0, 0))
  low : Below w.heap.size w W
  own : W.ownsRow (w.heap.size + 2) 42 4 v l.length (csS l)
theorem ownE_below {W W' : World} {B : Nat} {t : TypeId} {k : Nat} {v : Value} {n : Nat} {xs : List Value} (h : W.ownsRow B t k v n xs) (hb : Below W.heap.size W W') : W'.ownsRow B t k v n xs := by
  refine ⟨h.1, ?_⟩
  rcases h.2 with h0 | ⟨g, cap, cur, h1, h2, h3, h4⟩
  · exact .inl h0
  · exact .inr ⟨g, cap, cur, h1, h2, keptN hb h3, h4⟩
theorem PBox.below {w W W' : World} {E F : Int} (h : PBox w E F W) (hb : Below W.heap.size W W') : PBox w E F W' := by
  obtain ⟨v, hv⟩ := h.box
  exact ⟨keptN hb h.res, ⟨v, keptN hb hv⟩, h.low.trans (hb.mono h.low.size)⟩
theorem PBox.drew {w W : World} {E F : Int} (h : PBox w E F W) : PBox w E F W.drew := h.below (Below.refl _ W).drew
theorem PAt.below {w W W' : World} {E F : Int} {v : Value} {l : List Seg} (h : PAt w E F v l W) (hb : Below W.heap.size W W') : PAt w E F v l W' :=
  ⟨keptN hb h.res, keptN hb h.box, h.low.trans (hb.mono h.low.size), ownE_below h.own hb⟩
theorem PAt.drew {w W : World} {E F : Int} {v : Value} {l : List Seg} (h : PAt w E F v l W) : PAt w E F v l W.drew := h.below (Below.refl _ W).drew
theorem PAt.pbox {w W : World} {E F : Int} {v : Value} {l : List Seg} (h : PAt w E F v l W) : PBox w E F W := ⟨h.res, ⟨v, h.box⟩, h.low⟩
theorem PAt.sz {w W : World} {E F : Int} {v : Value} {l : List Seg} (h : PAt w E F v l W) : w.heap.size + 2 ≤ W.heap.size := by have := (Array.getElem?_eq_some_iff.1 h.box).1; omega
/-- What owns its row is a slice of segments. -/
theorem sls_of_owns {W : World} {B : Nat} {v : Value} {l : List Seg} (h : W.ownsRow B 42 4 v l.length (csS l)) : SlS W v l := by
  rcases h.2 with ⟨rfl, hn⟩ | ⟨g, cap, cur, rfl, h2, h3, h4, _⟩
  · exact .inl ⟨none, 0, rfl, List.eq_nil_of_length_eq_zero hn⟩
  · refine .inr ⟨g, 0, cap, rfl, h4, (Array.getElem?_eq_some_iff.1 h3).1, fun j hj => ?_⟩
    rw [Nat.zero_add]; exact h.cellAt j hj
/-- Behind an append the boxes stand, and the row is the longer one's. -/
theorem PAt.grown {w W W' : World} {E F : Int} {v : Value} {l : List Seg} (h : PAt w E F v l W) (hg : W.grownBy W' v.ownBlock) :
    W'.heap[w.heap.size]? = some (.cells Z3 25 (0, 0)) ∧ W'.heap[w.heap.size + 1]? = some (.cells #[.int .u32 E, .int .u32 F, v] 25 (0, 0)) ∧ Below w.heap.size w W' := by
  have hne : ∀ k, k < w.heap.size + 2 → some k ≠ v.ownBlock := fun k hk e => by
    have := (h.own.lt k e.symm).1; omega
  have hs := h.sz
  exact ⟨by rw [hg.block _ (by omega) (hne _ (by omega))]; exact h.res, by rw [hg.block _ (by omega) (hne _ (by omega))]; exact h.box, h.low.grown hg (by omega) (fun k e => by have := (h.own.lt k e).1; omega)⟩
end Go.Proofs.Ytkfomhllaogplaa
