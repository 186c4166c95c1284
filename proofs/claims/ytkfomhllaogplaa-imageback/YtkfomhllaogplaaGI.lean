/-
  Contract of package image's With: a program with other words.
-/
import Derived.Test.YtkfomhllaogplaaGF
import Derived.Test.YtkfomhllaogplaaGG
import Derived.Test.YtkfomhllaogplaaGH
namespace Go.Proofs.Ytkfomhllaogplaa
open Go.RowKit El Go.Lib
open Classical
set_option linter.unusedSimpArgs false
set_option linter.unusedVariables false

theorem csS_setD (l : List Seg) (K : Nat) (s : List UInt8) : csS (setD l K s) = (csS l).set (K * 4 + 1) (.string ⟨s.toArray⟩) := by
  induction l generalizing K with
  | nil => simp [setD, csS]
  | cons a l ih =>
    have e : ∀ (b : Seg) r, csS (b :: r) = [.int .u32 (b.addr.toNat : Int), .string ⟨b.data.toArray⟩, .int .i64 b.size, .int .i64 b.flags] ++ csS r := fun b r => by simp [csS]
    cases K with
    | zero => show csS ({ a with data := s } :: l) = _; rw [e, e]; simp
    | succ K =>
      show csS (a :: setD l K s) = _
      rw [e, e, ih, List.set_append]
      rw [if_neg (by simp; omega)]
      congr 2; simp; omega
theorem own_setD {W : World} {B g c n K : Nat} {l : List Seg} (h : W.ownsRow B 42 4 (.slice (some ⟨g, 0, none⟩) n c) n (csS l)) (hn : n = l.length) (hK : K < l.length) (s : List UInt8) :
    (W.setCell ⟨g, K * 4 + 1, none⟩ (.string ⟨s.toArray⟩)).ownsRow B 42 4 (.slice (some ⟨g, 0, none⟩) n c) n (csS (setD l K s)) := by
  refine ⟨by rw [csS_len, setD_len, hn], ?_⟩
  rcases h.2 with ⟨e, _⟩ | ⟨g', cap, cur, e, h2, h3, h4, h5, h6, h7⟩
  · cases e
  · injection e with e1 e2 e3
    injection e1 with e1
    injection e1 with e1
    subst e1 e3
    refine .inr ⟨g, c, cur.setIfInBounds (K * 4 + 1) (.string ⟨s.toArray⟩), rfl, h2, ?_, h4, h5, by rw [Array.size_setIfInBounds]; exact h6, ?_⟩
    · simp [World.setCell, Array.getElem?_modify, h3]
    · rw [csS_setD, ← h7, Array.toList_setIfInBounds, List.take_set]
/-- A slice of words as numbers of 32 bits. -/
theorem written_list (Bs : Nat) (sv : Value) (ws : List Nat) (hlen : ws.length ≤ 4000000) (hw : ∀ n ∈ ws, n < 4294967296) (w : World) (hb : Bs < w.heap.size) (hc : w.cell? ⟨Bs, 0, none⟩ = some sv) (hS : SlW w sv ws) :
    Calls Try.prog 33 #[.func (.func 52) #[] #[.pointer (some ⟨Bs, 0, none⟩)]] w fun e W' => e = .returned (.string ⟨(bytesW ws).toArray⟩) ∧ Below w.heap.size w W' := by
  have hz : natsOf (ws.map (BitVec.ofNat 32)) = ws := by
    unfold natsOf
    rw [List.map_map]
    conv => rhs; rw [← List.map_id ws]
    apply List.map_congr_left
    intro n hn
    have := hw n hn
    simp only [Function.comp, BitVec.toNat_ofNat, id]
    exact Nat.mod_eq_of_lt this
  have key : ∀ g, g < w.heap.size → ((∃ p c, sv = .slice p 0 c ∧ ws.map (BitVec.ofNat 32) = []) ∨ ∃ o cap, sv = .slice (some ⟨g, o, none⟩) (ws.map (BitVec.ofNat 32)).length cap ∧ ∀ (j : Nat) (x : BitVec 32), (ws.map (BitVec.ofNat 32))[j]? = some x → w.cell? ⟨g, o + j, none⟩ = some (.int .u32 (x.toNat : Int))) → Calls Try.prog 33 #[.func (.func 52) #[] #[.pointer (some ⟨Bs, 0, none⟩)]] w fun e W' => e = .returned (.string ⟨(bytesW ws).toArray⟩) ∧ Below w.heap.size w W' := fun g hg h => by
    have := written_words Bs g sv (ws.map (BitVec.ofNat 32)) (by rw [List.length_map]; exact hlen) w hb hg hc h
    rwa [hz] at this
  rcases hS with ⟨p, c, rfl, rfl⟩ | ⟨g, o, cap, rfl, _, hg, hcs⟩
  · exact key Bs hb (.inl ⟨p, c, rfl, rfl⟩)
  · refine key g hg (.inr ⟨o, cap, by rw [List.length_map], fun j x hx => ?_⟩)
    rw [List.getElem?_map] at hx
    cases e : ws[j]? with
    | none => rw [e] at hx; cases hx
    | some n =>
      rw [e] at hx
      simp only [Option.map_some, Option.some.injEq] at hx
      subst hx
      rw [hcs j n e, BitVec.toNat_ofNat, Nat.mod_eq_of_lt (hw n (List.mem_of_getElem? e))]
abbrev imgC (A0 E : Int) (K : Nat) (iu : Value) : Array Value := #[.int .u32 A0, .int .u32 E, iu, .int .i64 (K : Int)]
/-- While With is at work: its boxes, and the row. -/
structure WiAt (w : World) (E F : Int) (v : Value) (l : List Seg) (b6 : Nat) (cs : Array Value) (b8 : Nat) (lv : Value) (ws : List Nat) (W : World) : Prop where
  res : W.heap[w.heap.size + 1]? = some (.cells Z3 25 (0, 0))
  ib : W.heap[b6]? = some (.cells cs 29 (0, 0))
  yb : W.heap[b8]? = some (.cells #[.int .u32 E, .int .u32 F, v] 25 (0, 0))
  own : W.ownsRow (w.heap.size + 2) 42 4 v l.length (csS l)
  lw : SlW W lv ws
  low : Below w.heap.size w W
theorem WiAt.below {w W W' : World} {E F : Int} {v : Value} {l : List Seg} {b6 : Nat} {cs : Array Value} {b8 : Nat} {lv : Value} {ws : List Nat} (h : WiAt w E F v l b6 cs b8 lv ws W) (hb : Below W.heap.size W W') : WiAt w E F v l b6 cs b8 lv ws W' :=
  ⟨keptN hb h.res, keptN hb h.ib, keptN hb h.yb, ownE_below h.own hb, h.lw.below hb, h.low.trans (hb.mono h.low.size)⟩
theorem WiAt.drew {w W : World} {E F : Int} {v : Value} {l : List Seg} {b6 : Nat} {cs : Array Value} {b8 : Nat} {lv : Value} {ws : List Nat} (h : WiAt w E F v l b6 cs b8 lv ws W) : WiAt w E F v l b6 cs b8 lv ws W.drew := h.below (Below.refl _ W).drew
end Go.Proofs.Ytkfomhllaogplaa
