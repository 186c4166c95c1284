/-
  Contracts of the document's layer 9: all, same, right.
  What the document's Find of layer 9 holds while it goes round: two lists of words, a third one that they were; half a round.
-/
import Derived.Deep.QuietTactic
import Derived.BigQuiet
import Derived.Test.YtcffpmicencfpabGreatZD3
import Derived.Test.YtcffpmicencfpabGreatZD6
import Derived.Test.YtcffpmicencfpabGreatZY4
import Derived.Test.YtcffpmicencfpabGreatZY7
namespace Go.Proofs.YtcffpmicencfpabGreat
open Go.RowKit Go.Lib Go.Sort Ip Bl Lv Pm
set_option linter.unusedSimpArgs false
set_option linter.unusedVariables false

theorem loose_away (op rd rs1 rs2 imm : Int) : looseX ⟨op, rd, rs1, rs2, imm⟩ true = true := by unfold looseX; rfl
theorem loose_not (op rd rs1 rs2 imm : Int) : looseX ⟨op, rd, rs1, rs2, imm⟩ false = (decide (op = 46) || ((decide (op = 2) || decide (op = 3)) && decide (rd ≠ 0))) := by unfold looseX; rfl
/-- Is an answer of Find the blocks themselves? -/
theorem right_iff {i : Img} {l m : List (Nat × Nat)} {er : Nat} (h : AnsF (txI i) (seedsI i (l.map Prod.fst)) er m) : rightP i l ↔ er = 0 ∧ l = m := by
  constructor
  · intro hr
    have := h.same hr (fun _ => Iff.rfl)
    exact ⟨this.1, this.2.symm⟩
  · rintro ⟨rfl, rfl⟩
    exact h
end Go.Proofs.YtcffpmicencfpabGreat
namespace Go.Proofs.YtcffpmicencfpabGreat
open Go.RowKit Go.Lib Go.Sort Ip Bl Lv Pm
set_option linter.unusedSimpArgs false
set_option linter.unusedVariables false

/-! ### plain -/
structure HalfA (F : Fw) (A : List (BitVec 32)) (k : Nat) (A' : List (BitVec 32)) : Prop where
  len : A'.length = F.n
  get : ∀ j, A'.getD j (BitVec.ofNat 32 0) = if j < k then ahdF F A j else A.getD j (BitVec.ofNat 32 0)
structure HalfB (F : Fw) (A : List (BitVec 32)) (k : Nat) (B' : List (BitVec 32)) : Prop where
  len : B'.length = F.n
  get : ∀ j, j < k → B'.getD j (BitVec.ofNat 32 0) = behF F A j
theorem HalfA.start {F : Fw} {A : List (BitVec 32)} (h : A.length = F.n) : HalfA F A 0 A := ⟨h, fun j => by rw [if_neg (Nat.not_lt_zero j)]⟩
theorem HalfB.start {F : Fw} {A B : List (BitVec 32)} (h : B.length = F.n) : HalfB F A 0 B := ⟨h, fun j hj => absurd hj (Nat.not_lt_zero j)⟩
theorem HalfA.step {F : Fw} {A A' : List (BitVec 32)} {k : Nat} (h : HalfA F A k A') (hk : k < F.n) : HalfA F A (k + 1) (A'.set k (ahdF F A k)) := by
  refine ⟨by rw [List.length_set]; exact h.len, fun j => ?_⟩
  rw [set_getD, h.get j]
  by_cases e : k = j
  · subst e
    rw [if_pos ⟨rfl, by rw [h.len]; exact hk⟩, if_pos (Nat.lt_succ_self k)]
  · rw [if_neg (fun c => e c.1)]
    by_cases e2 : j < k
    · rw [if_pos e2, if_pos (by omega)]
    · rw [if_neg e2, if_neg (by omega)]
theorem HalfB.step {F : Fw} {A B' : List (BitVec 32)} {k : Nat} (h : HalfB F A k B') (hk : k < F.n) : HalfB F A (k + 1) (B'.set k (behF F A k)) := by
  refine ⟨by rw [List.length_set]; exact h.len, fun j hj => ?_⟩
  rw [set_getD]
  by_cases e : k = j
  · subst e
    rw [if_pos ⟨rfl, by rw [h.len]; exact hk⟩]
  · rw [if_neg (fun c => e c.1)]
    exact h.get j (by omega)
theorem HalfA.end_ {F : Fw} {A A' : List (BitVec 32)} (h : HalfA F A F.n A') (hA : A.length = F.n) : A' = roundF F A := by
  refine list_getD_ext (h.len.trans (round_len F A).symm) fun j => ?_
  rw [h.get j, round_getD]
  by_cases e : j < F.n
  · rw [if_pos e, if_pos e]
  · rw [if_neg e, if_neg e, getD_none (by omega)]
theorem HalfB.end_ {F : Fw} {A B' : List (BitVec 32)} (h : HalfB F A F.n B') : B' = behL F A := by
  refine list_getD_ext (h.len.trans (by unfold behL; simp)) fun j => ?_
  unfold behL
  rw [map_getD]
  by_cases e : j < F.n
  · rw [if_pos e, h.get j e]
  · rw [if_neg e, getD_none (by rw [h.len]; omega)]
def orK (A : List (BitVec 32)) (N : List Nat) (t : Nat) : BitVec 32 := orL A (N.take t)
theorem orK_zero (A : List (BitVec 32)) (N : List Nat) : orK A N 0 = (BitVec.ofNat 32 0) := rfl
theorem orK_succ (A : List (BitVec 32)) (N : List Nat) (t : Nat) {u : Nat} (h : N[t]? = some u) : orK A N (t + 1) = orK A N t ||| A.getD u (BitVec.ofNat 32 0) := by
  unfold orK orL
  rw [List.take_add_one, h, Option.toList_some, List.foldl_append]; rfl
theorem orK_end (A : List (BitVec 32)) (N : List Nat) : orK A N N.length = orL A N := by unfold orK; rw [List.take_length]
theorem natV_set (A : List (BitVec 32)) (k : Nat) (z : BitVec 32) : ((natL A).map wordV).set k (.int .u32 (z.toNat : Int)) = (natL (A.set k z)).map wordV := by
  unfold natL
  rw [List.map_set, List.map_set]; rfl
theorem natV_get (A : List (BitVec 32)) {k : Nat} (h : k < A.length) : ((natL A).map wordV)[k]? = some (.int .u32 ((A.getD k (BitVec.ofNat 32 0)).toNat : Int)) := by
  unfold natL
  rw [List.getElem?_map, List.getElem?_map, List.getD_eq_getElem?_getD, List.getElem?_eq_getElem h]; rfl

/-! ### memory -/
structure Q2 (w : World) (i : Img) (u va vb : Value) (n : Nat) (A B : List (BitVec 32)) (W : World) : Prop where
  ib : W.heap[w.heap.size]? = some (.cells (imgC i u) 26 (0, 0))
  ra : W.ownsRow (w.heap.size + 1) 22 1 va n ((natL A).map wordV)
  rb : W.ownsRow (w.heap.size + 1) 22 1 vb n ((natL B).map wordV)
  ab : ∀ k, va.ownBlock = some k → vb.ownBlock ≠ some k
  low : Below w.heap.size w W
  big : w.heap.size + 1 ≤ W.heap.size
variable {w : World} {i : Img} {u va vb vw : Value} {n : Nat} {A B C : List (BitVec 32)} {W W' : World}
theorem kept_below {B0 n : Nat} {t : TypeId} {k : Nat} {v : Value} {xs : List Value} (h : W.ownsRow B0 t k v n xs) (hb : Below W.heap.size W W') : W'.ownsRow B0 t k v n xs := h.kept (grown_of_below hb) (by cases v.ownBlock <;> simp)
theorem Q2.ext (h : Q2 w i u va vb n A B W) (hb : Below W.heap.size W W') : Q2 w i u va vb n A B W' :=
  ⟨keptN hb h.ib, kept_below h.ra hb, kept_below h.rb hb, h.ab, h.low.trans (hb.mono h.low.size), Nat.le_trans h.big hb.size⟩
theorem Q2.lenA (h : Q2 w i u va vb n A B W) : A.length = n := by
  have := h.ra.1
  rw [List.length_map, natL_len] at this
  omega
theorem Q2.lenB (h : Q2 w i u va vb n A B W) : B.length = n := by
  have := h.rb.1
  rw [List.length_map, natL_len] at this
  omega
theorem Q2.setA {g c : Nat} (h : Q2 w i u (.slice (some ⟨g, 0, none⟩) n c) vb n A B W) (k : Nat) (z : BitVec 32) : Q2 w i u (.slice (some ⟨g, 0, none⟩) n c) vb n (A.set k z) B (W.setCell ⟨g, k, none⟩ (.int .u32 (z.toNat : Int))) := by
  have hlt := h.ra.lt g rfl
  obtain ⟨h1, h2⟩ := h.ra.stored k (.int .u32 (z.toNat : Int))
  rw [natV_set] at h1
  exact ⟨(Below.heap_setCell _ _ _ _ (by show w.heap.size ≠ g; omega)).trans h.ib, h1, h.rb.kept h2 (.inr (h.ab g rfl)), h.ab, h.low.grown h2 h.low.size (fun k e => by cases e; omega), by have := h.big; simpa using this⟩
theorem Q2.setB {g c : Nat} (h : Q2 w i u va (.slice (some ⟨g, 0, none⟩) n c) n A B W) (k : Nat) (z : BitVec 32) : Q2 w i u va (.slice (some ⟨g, 0, none⟩) n c) n A (B.set k z) (W.setCell ⟨g, k, none⟩ (.int .u32 (z.toNat : Int))) := by
  have hlt := h.rb.lt g rfl
  obtain ⟨h1, h2⟩ := h.rb.stored k (.int .u32 (z.toNat : Int))
  rw [natV_set] at h1
  exact ⟨(Below.heap_setCell _ _ _ _ (by show w.heap.size ≠ g; omega)).trans h.ib, h.ra.kept h2 (.inr (fun e => h.ab g e rfl)), h1, h.ab, h.low.grown h2 h.low.size (fun k e => by cases e; omega), by have := h.big; simpa using this⟩
/-- .. and what the first one was. -/
structure Q3 (w : World) (i : Img) (u va vb vw : Value) (n : Nat) (A B C : List (BitVec 32)) (W : World) : Prop where
  q2 : Q2 w i u va vb n A B W
  rc : W.ownsRow (w.heap.size + 1) 22 1 vw n ((natL C).map wordV)
  ca : ∀ k, vw.ownBlock = some k → va.ownBlock ≠ some k ∧ vb.ownBlock ≠ some k
theorem Q3.ext (h : Q3 w i u va vb vw n A B C W) (hb : Below W.heap.size W W') : Q3 w i u va vb vw n A B C W' := ⟨h.q2.ext hb, kept_below h.rc hb, h.ca⟩
theorem Q3.setA {g c : Nat} (h : Q3 w i u (.slice (some ⟨g, 0, none⟩) n c) vb vw n A B C W) (k : Nat) (z : BitVec 32) : Q3 w i u (.slice (some ⟨g, 0, none⟩) n c) vb vw n (A.set k z) B C (W.setCell ⟨g, k, none⟩ (.int .u32 (z.toNat : Int))) :=
  ⟨h.q2.setA k z, h.rc.kept (h.q2.ra.stored k (.int .u32 (z.toNat : Int))).2 (.inr (fun e => (h.ca g e).1 rfl)), h.ca⟩
theorem Q3.setB {g c : Nat} (h : Q3 w i u va (.slice (some ⟨g, 0, none⟩) n c) vw n A B C W) (k : Nat) (z : BitVec 32) : Q3 w i u va (.slice (some ⟨g, 0, none⟩) n c) vw n A (B.set k z) C (W.setCell ⟨g, k, none⟩ (.int .u32 (z.toNat : Int))) :=
  ⟨h.q2.setB k z, h.rc.kept (h.q2.rb.stored k (.int .u32 (z.toNat : Int))).2 (.inr (fun e => (h.ca g e).2 rfl)), h.ca⟩
theorem Q3.new (h : Q2 w i u va vb n A B W) (hb : Below W.heap.size W W') (hc : W'.ownsRow W.heap.size 22 1 vw n ((natL C).map wordV)) : Q3 w i u va vb vw n A B C W' :=
  ⟨h.ext hb, own_lowN hc h.big, fun k e => by
    have h1 := (hc.lt k e).1
    exact ⟨fun e2 => by have := (h.ra.lt k e2).2; omega, fun e2 => by have := (h.rb.lt k e2).2; omega⟩⟩
theorem SlN.put {g o m c gb k : Nat} {l : List Ins} {z : Value} (h : SlN W (.slice (some ⟨g, o, none⟩) m c) l) (hne : g ≠ gb) : SlN (W.setCell ⟨gb, k, none⟩ z) (.slice (some ⟨g, o, none⟩) m c) l := by
  rcases h with h | ⟨g', o', cap, e, hg, hc⟩
  · exact .inl h
  · injection e with e1 e2 e3
    injection e1 with e1
    injection e1 with e4 e5
    subst e4 e5
    have hs := grown_setCell W ⟨gb, k, none⟩ z
    have hb := hs.block g hg (fun e => hne (by injection e))
    exact .inr ⟨g, o, cap, by rw [e2, e3], Nat.lt_of_lt_of_le hg hs.size, fun j hj => by rw [Pm_cell_of (by exact hb)]; exact hc j hj⟩
theorem makeU (N : Nat) (hN : N ≤ 1000) : ∃ M : Array Value, (∀ W : World, (Instr.makeSlice 24 (.int .i64 (N : Int)) (.int .i64 (N : Int))).run Tryz.prog W = .ok (.slice (some ⟨W.heap.size, 0, none⟩) N N) (W.alloc (.cells M 22))) ∧ M.toList = (natL (List.replicate N (BitVec.ofNat 32 0))).map wordV := by
  obtain ⟨i0, hi, hz0, hz1, hz2⟩ := info_parts infoU
  refine ⟨madeCells (Value.int .u32 0).cells (N * i0.size), fun W => ?_, ?_⟩
  · have h := run_make (P := Tryz.prog) W 24 22 i0 (.int .u32 0) Tryz.underlying24 hi hz0 .i64 .i64 (N : Int) (N : Int) (by omega) (by omega) (by rw [hz2]; omega) (by omega)
    simpa using h
  · have e : (madeCells (Value.int .u32 0).cells (N * i0.size)).toList = List.replicate N (.int .u32 0) := by
      rw [hz1, Nat.mul_one]; exact toList_madeCells_one _ _
    rw [e]
    unfold natL
    rw [List.map_replicate, List.map_replicate]; rfl
theorem owns_made {N : Nat} {M : Array Value} {xs : List Value} (hM : M.toList = xs) (hN : xs.length = N) (hN2 : N ≤ 1000) (W : World) {B0 : Nat} (hB : B0 ≤ W.heap.size) : (W.alloc (.cells M 22)).ownsRow B0 22 1 (.slice (some ⟨W.heap.size, 0, none⟩) N N) N xs := by
  have hs : M.size = N := by rw [← hN, ← hM]; simp
  exact ⟨by rw [Nat.mul_one]; exact hN, .inr ⟨W.heap.size, N, M, rfl, hB, heap_alloc_new W _, Nat.le_refl _, by unfold maxLen; omega, by rw [Nat.mul_one]; exact hs, by rw [hM, Nat.mul_one]; exact List.take_of_length_le (by omega)⟩⟩
end Go.Proofs.YtcffpmicencfpabGreat
