/-
  Contracts of the document's Same and Nums (layer 8).
  What the statements' own helper 'fixed' asks (layer 8): plain facts, and the contracts at its texts.
  The statements' own helper 'fixed' (layer 8): it answers true.
-/

import Derived.Test.YtcffpmicencfpabGreatZC7
import Derived.Test.YtcffpmicencfpabGreatZC8
namespace Go.Proofs.YtcffpmicencfpabGreat
open Go.RowKit Go.Lib Go.Sort Go.Maps Ip Bl Pm
set_option linter.unusedSimpArgs false
set_option linter.unusedVariables false

def sameB (a b a' b' : Int) : Bool := decide (a = a' ∧ b = b')
set_option maxHeartbeats 1000000 in
theorem neqB (a b a' b' : Int) (w : World) : (binOp .neq 45 (.agg #[.int .u32 a, .int .i64 b]) (.agg #[.int .u32 a', .int .i64 b'])).run Tryz.prog w = .ok (.bool (!sameB a b a' b')) w := by
  by_cases h1 : a = a' <;> by_cases h2 : b = b' <;> simp [go_sem, sameB, h1, h2]
theorem take_stepB {α : Type} {la lb : List α} {i : Nat} {x : α} (h : la.take i = lb.take i) (ha : la[i]? = some x) (hb : lb[i]? = some x) : la.take (i + 1) = lb.take (i + 1) := by
  rw [List.take_add_one, List.take_add_one, h, ha, hb]
/-- A slice of numbers. -/
def SlI8 (W : World) (v : Value) (l : List Nat) : Prop :=
  (∃ p c, v = .slice p 0 c ∧ l = []) ∨ ∃ g cap, v = .slice (some ⟨g, 0, none⟩) l.length cap ∧ g < W.heap.size ∧ ∀ (j n : Nat), l[j]? = some n → W.cell? ⟨g, j, none⟩ = some (.int .i64 (n : Int))
theorem SlI8.below {W W' : World} {v : Value} {l : List Nat} (h : SlI8 W v l) (hb : Below W.heap.size W W') : SlI8 W' v l := by
  rcases h with h | ⟨g, cap, rfl, hg, hc⟩
  · exact .inl h
  · exact .inr ⟨g, cap, rfl, Nat.lt_of_lt_of_le hg hb.size, fun j n hj => by rw [hb.cell (by exact hg)]; exact hc j n hj⟩
theorem sli_of_owns {W : World} {B : Nat} {v : Value} {l : List Nat} (h : W.ownsRow B 3 1 v l.length (l.map numV8)) : SlI8 W v l := by
  rcases h.2 with ⟨rfl, hn⟩ | ⟨g, cap, cur, rfl, h2, h3, h4, _⟩
  · exact .inl ⟨none, 0, rfl, List.eq_nil_of_length_eq_zero hn⟩
  · refine .inr ⟨g, cap, rfl, (Array.getElem?_eq_some_iff.1 h3).1, fun j n hj => ?_⟩
    rw [h.cellAt j (by rw [Nat.mul_one]; exact (List.getElem?_eq_some_iff.1 hj).1), List.getElem?_map, hj]; rfl
theorem SlI8.len {W : World} {v : Value} {l : List Nat} (h : SlI8 W v l) : ∃ p c, v = .slice p l.length c := by
  rcases h with ⟨p, c, rfl, rfl⟩ | ⟨g, cap, rfl, _⟩
  · exact ⟨_, _, rfl⟩
  · exact ⟨_, _, rfl⟩
theorem SlI8.at {W : World} {p : Option Addr} {n c : Nat} {l : List Nat} (h : SlI8 W (.slice p n c) l) {k u : Nat} (hk : l[k]? = some u) : ∃ g, p = some ⟨g, 0, none⟩ ∧ W.cell? ⟨g, k, none⟩ = some (.int .i64 (u : Int)) := by
  rcases h with ⟨_, _, _, rfl⟩ | ⟨g, cap, e, _, hc⟩
  · simp at hk
  · injection e with e1 e2 e3
    exact ⟨g, e1, hc k u hk⟩
end Go.Proofs.YtcffpmicencfpabGreat
namespace Go.Proofs.YtcffpmicencfpabGreat
open Go.RowKit Go.Lib Go.Sort Go.Maps Ip Bl Pm
set_option linter.unusedSimpArgs false
set_option linter.unusedVariables false

def W8 : List Nat := [1123, 19, 1048691]
def i8 : Img := ⟨(BitVec.ofNat 32 4096), (BitVec.ofNat 32 4096), W8, 0⟩
def i80 : Img := ⟨(BitVec.ofNat 32 4096), (BitVec.ofNat 32 4096), [0], 0⟩
def B8 : List (Nat × Nat) := [(4096, 1), (4100, 1), (4104, 1)]
theorem i8_ok : i8.ok := ⟨by decide, by decide, by decide, by decide⟩
theorem i80_ok : i80.ok := ⟨by decide, by decide, by decide, by decide⟩
set_option maxRecDepth 100000 in
theorem i8_0 : insA i8 4096 = ⟨4, 0, 0, 0, 8⟩ := by kernel_rfl
set_option maxRecDepth 100000 in
theorem i8_1 : insA i8 4100 = ⟨18, 0, 0, 0, 0⟩ := by kernel_rfl
set_option maxRecDepth 100000 in
theorem i8_2 : insA i8 4104 = ⟨46, 0, 0, 0, 0⟩ := by kernel_rfl
set_option maxRecDepth 100000 in
theorem e8_0 : errA i8 4096 = 0 := by kernel_rfl
set_option maxRecDepth 100000 in
theorem e8_1 : errA i8 4100 = 0 := by kernel_rfl
set_option maxRecDepth 100000 in
theorem e8_2 : errA i8 4104 = 0 := by kernel_rfl
set_option maxRecDepth 100000 in
theorem e8_3 : errA i8 4108 = 81 := by kernel_rfl
set_option maxRecDepth 100000 in
theorem e80_0 : errA i80 4096 = 80 := by kernel_rfl
theorem s8_0 : (txI i8).suc 4096 = [4100, 4104] := by show aftI (insA i8 4096) 4096 = _; rw [i8_0]; decide
theorem s8_1 : (txI i8).suc 4100 = [4104] := by show aftI (insA i8 4100) 4100 = _; rw [i8_1]; decide
theorem s8_2 : (txI i8).suc 4104 = [] := by show aftI (insA i8 4104) 4104 = _; rw [i8_2]; decide
theorem n8_0 : (txI i8).ends 4096 = true := by show endsI (insA i8 4096) = _; rw [i8_0]; decide
theorem n8_1 : (txI i8).ends 4100 = false := by show endsI (insA i8 4100) = _; rw [i8_1]; decide
theorem n8_2 : (txI i8).ends 4104 = true := by show endsI (insA i8 4104) = _; rw [i8_2]; decide
theorem r8_0 {es : List Nat} : Bl.Reach (txI i8) (seedsI i8 es) 4096 := reach_seed List.mem_cons_self
theorem r8_1 {es : List Nat} : Bl.Reach (txI i8) (seedsI i8 es) 4100 := reach_step r8_0 e8_0 (by rw [s8_0]; simp)
theorem r8_2 {es : List Nat} : Bl.Reach (txI i8) (seedsI i8 es) 4104 := reach_step r8_0 e8_0 (by rw [s8_0]; simp)
theorem c8 : Closed (txI i8) (seedsI i8 []) [4096, 4100, 4104] := by
  refine ⟨fun a ha => ?_, fun b hb h0 a ha => ?_, fun a ha => ?_⟩
  · rcases List.mem_cons.1 ha with rfl | ha
    · show (4096 : Nat) ∈ _; simp
    · simp at ha
  · simp only [List.mem_cons, List.not_mem_nil, or_false] at hb
    rcases hb with rfl | rfl | rfl
    · rw [s8_0] at ha; simp at ha ⊢; omega
    · rw [s8_1] at ha; simp at ha ⊢; omega
    · rw [s8_2] at ha; simp at ha
  · simp only [List.mem_cons, List.not_mem_nil, or_false] at ha
    rcases ha with rfl | rfl | rfl
    · exact r8_0
    · exact r8_1
    · exact r8_2
theorem c8' : Closed (txI i8) (seedsI i8 [4108]) [4096, 4100, 4104, 4108] := by
  refine ⟨fun a ha => ?_, fun b hb h0 a ha => ?_, fun a ha => ?_⟩
  · rcases List.mem_cons.1 ha with rfl | ha
    · show (4096 : Nat) ∈ _; simp
    · simp at ha; subst ha; simp
  · simp only [List.mem_cons, List.not_mem_nil, or_false] at hb
    rcases hb with rfl | rfl | rfl | rfl
    · rw [s8_0] at ha; simp at ha ⊢; omega
    · rw [s8_1] at ha; simp at ha ⊢; omega
    · rw [s8_2] at ha; simp at ha
    · exact absurd (h0.symm.trans e8_3) (by decide)
  · simp only [List.mem_cons, List.not_mem_nil, or_false] at ha
    rcases ha with rfl | rfl | rfl | rfl
    · exact r8_0
    · exact r8_1
    · exact r8_2
    · exact reach_seed (by simp [seedsI])
theorem c80 : Closed (txI i80) (seedsI i80 []) [4096] := by
  refine ⟨fun a ha => ?_, fun b hb h0 a ha => ?_, fun a ha => ?_⟩
  · rcases List.mem_cons.1 ha with rfl | ha
    · show (4096 : Nat) ∈ _; simp
    · simp at ha
  · simp at hb; subst hb
    exact absurd (h0.symm.trans e80_0) (by decide)
  · simp at ha; subst ha; exact reach_seed List.mem_cons_self
theorem l8 : errL (txI i8).err [4096, 4100, 4104] = 0 := by
  show errL (errA i8) [4096, 4100, 4104] = 0
  simp [errL, foldE, e8_0, e8_1, e8_2]
theorem l8' : errL (txI i8).err [4096, 4100, 4104, 4108] = 81 := by
  show errL (errA i8) [4096, 4100, 4104, 4108] = 81
  simp [errL, foldE, e8_0, e8_1, e8_2, e8_3]
theorem l80 : errL (txI i80).err [4096] = 80 := by
  show errL (errA i80) [4096] = 80
  simp [errL, foldE, e80_0]
theorem b8 : adrL (txI i8) (blks (txI i8) (seedsI i8 []) [4096, 4100, 4104] (txI i8).n) = B8 := by
  have a0 : (txI i8).adr 0 = 4096 := rfl
  have a1 : (txI i8).adr 1 = 4100 := rfl
  have a2 : (txI i8).adr 2 = 4104 := rfl
  have d0 : begins (txI i8) (seedsI i8 []) [4096, 4100, 4104] 0 = true := begins_zero
  have d1 : begins (txI i8) (seedsI i8 []) [4096, 4100, 4104] 1 = true := by
    unfold begins; rw [a0, n8_0]; simp
  have d2 : begins (txI i8) (seedsI i8 []) [4096, 4100, 4104] 2 = true := by
    refine leader_begins ?_
    rw [a2]
    exact leader_of (b := 4096) (by simp) e8_0 n8_0 (by rw [s8_0]; simp)
  have hn : (txI i8).n = 3 := rfl
  rw [hn]
  simp only [blks, a0, a1, a2, d0, d1, d2]
  simp [adrL, a0, a1, a2, B8]
theorem f8 : AnsF (txI i8) (seedsI i8 []) 0 B8 := ⟨_, c8, l8.symm, by rw [if_pos rfl, b8]⟩
theorem f8' : AnsF (txI i8) (seedsI i8 [4108]) 81 [] := ⟨_, c8', l8'.symm, by rw [if_neg (by decide)]⟩
theorem f80 : AnsF (txI i80) (seedsI i80 []) 80 [] := ⟨_, c80, l80.symm, by rw [if_neg (by decide)]⟩
theorem slw_nil (W : World) : SlW W (.slice none 0 0) [] := .inl ⟨none, 0, rfl, rfl⟩
theorem find8_any (v : Value) (w : World) (hS : SlW w v W8) : Calls Tryz.prog 25 #[imgV i8 v, .slice none 0 0] w fun e W' => ∃ u, e = .returned (.tuple #[u, .int .i64 0]) ∧ W'.ownsRow w.heap.size 45 2 u 3 (cellsB B8) ∧ Below w.heap.size w W' := by
  refine (finds_any i8 v (.slice none 0 0) [] (fun a ha => by simp at ha) (by decide) i8_ok w hS (slw_nil w)).mono ?_
  rintro e W' ⟨er, l, hans, u, rfl, hrow, hb⟩
  obtain ⟨rfl, rfl⟩ := hans.same f8 (fun _ => Iff.rfl)
  exact ⟨u, rfl, hrow, hb⟩
theorem find8'_any (v ve : Value) (w : World) (hS : SlW w v W8) (hE : SlW w ve [4108]) : Calls Tryz.prog 25 #[imgV i8 v, ve] w fun e W' => ∃ u, e = .returned (.tuple #[u, .int .i64 81]) ∧ Below w.heap.size w W' := by
  refine (finds_any i8 v ve [4108] (fun a ha => by simp at ha; omega) (by decide) i8_ok w hS hE).mono ?_
  rintro e W' ⟨er, l, hans, u, rfl, hrow, hb⟩
  obtain ⟨rfl, rfl⟩ := hans.same f8' (fun _ => Iff.rfl)
  exact ⟨u, rfl, hb⟩
theorem find80_any (v : Value) (w : World) (hS : SlW w v [0]) : Calls Tryz.prog 25 #[imgV i80 v, .slice none 0 0] w fun e W' => ∃ u, e = .returned (.tuple #[u, .int .i64 80]) ∧ Below w.heap.size w W' := by
  refine (finds_any i80 v (.slice none 0 0) [] (fun a ha => by simp at ha) (by decide) i80_ok w hS (slw_nil w)).mono ?_
  rintro e W' ⟨er, l, hans, u, rfl, hrow, hb⟩
  obtain ⟨rfl, rfl⟩ := hans.same f80 (fun _ => Iff.rfl)
  exact ⟨u, rfl, hb⟩
theorem fit8 : FitB B8 := ⟨by unfold RiseB B8; simp, fun b hb => by simp [B8] at hb; rcases hb with rfl | rfl | rfl <;> decide, fun b hb => by simp [B8] at hb; rcases hb with rfl | rfl | rfl <;> decide, by decide⟩
theorem nx8 : nextV i8 B8 0 = ([1, 2], false) := by
  have hl : lastA (B8.getD (0 : Int).toNat (0, 0)) = 4096 := by decide
  unfold nextV
  rw [hl, i8_0, if_pos ⟨by decide, by decide, e8_0⟩]
  have ha : aftI ⟨4, 0, 0, 0, 8⟩ 4096 = [4100, 4104] := by decide
  rw [ha]
  decide
theorem next8_any (v vl : Value) (w : World) (hS : SlW w v W8) (hB : SlB w vl B8) : Calls Tryz.prog 28 #[imgV i8 v, vl, .int .i64 0] w fun e W' => ∃ u, e = .returned (.tuple #[u, .bool false]) ∧ SlI8 W' u [1, 2] ∧ Below w.heap.size w W' := by
  refine (next_any i8 v vl B8 0 (by decide) (by decide) fit8 i8_ok w hS hB).mono ?_
  rw [nx8]
  rintro e W' ⟨u, rfl, hrow, hb⟩
  exact ⟨u, rfl, sli_of_owns hrow, hb⟩
theorem after8_any (w : World) : Calls Tryz.prog 49 #[.agg #[.int .i64 4, .int .i64 0, .int .i64 0, .int .i64 0, .int .i64 (-4)], .int .u32 8] w fun e W' => ∃ u, e = .returned u ∧ SlW W' u [4, 12] ∧ Below w.heap.size w W' := by
  have h := after_any ⟨4, 0, 0, 0, -4⟩ 8 w
  have ha : aftI ⟨4, 0, 0, 0, -4⟩ 8 = [4, 12] := by decide
  rw [ha] at h
  refine h.mono ?_
  rintro e W' ⟨u, rfl, hrow, hb⟩
  exact ⟨u, rfl, slw_of_owns hrow, hb⟩
theorem ends3_any (w : World) : Calls Tryz.prog 64 #[.agg #[.int .i64 3, .int .i64 0, .int .i64 0, .int .i64 0, .int .i64 0]] w fun e W' => e = .returned (.bool true) ∧ Below w.heap.size w W' := by
  have h := ends_any ⟨3, 0, 0, 0, 0⟩ w
  rw [show endsI ⟨3, 0, 0, 0, 0⟩ = true by decide] at h
  exact h
theorem ends45_any (w : World) : Calls Tryz.prog 64 #[.agg #[.int .i64 45, .int .i64 0, .int .i64 0, .int .i64 0, .int .i64 0]] w fun e W' => e = .returned (.bool false) ∧ Below w.heap.size w W' := by
  have h := ends_any ⟨45, 0, 0, 0, 0⟩ w
  rw [show endsI ⟨45, 0, 0, 0, 0⟩ = false by decide] at h
  exact h
end Go.Proofs.YtcffpmicencfpabGreat
namespace Go.Proofs.YtcffpmicencfpabGreat
open Go.RowKit Go.Lib Go.Sort Go.Maps Ip Bl Pm
set_option linter.unusedSimpArgs false
set_option linter.unusedVariables false

/-- While fixed is at work: its image's box. -/
structure F8 (w : World) (W : World) : Prop where
  ib : W.heap[w.heap.size + 1]? = some (.cells (imgC i8 (.slice (some ⟨w.heap.size, 0, none⟩) 3 3)) 26 (0, 0))
  lw : SlW W (.slice (some ⟨w.heap.size, 0, none⟩) 3 3) W8
  low : Below w.heap.size w W
theorem F8.below {w W W' : World} (h : F8 w W) (hb : Below W.heap.size W W') : F8 w W' := ⟨keptN hb h.ib, h.lw.below hb, h.low.trans (hb.mono h.low.size)⟩
theorem slw_lit (W : World) (cs : Array Value) (l : List Nat) (h : cs.toList = l.map wordV) : SlW (W.alloc (.cells cs 22)) (.slice (some ⟨W.heap.size, 0, none⟩) l.length l.length) l := by
  refine .inr ⟨W.heap.size, 0, l.length, rfl, Nat.le_refl _, by simp, fun j n hj => ?_⟩
  rw [World.cell?_alloc_at _ _ _ _ rfl, Nat.zero_add, ← Array.getElem?_toList, h, List.getElem?_map, hj]; rfl
theorem sli_lit (W : World) (cs : Array Value) (l : List Nat) (h : cs.toList = l.map numV8) : SlI8 (W.alloc (.cells cs 3)) (.slice (some ⟨W.heap.size, 0, none⟩) l.length l.length) l := by
  refine .inr ⟨W.heap.size, l.length, rfl, by simp, fun j n hj => ?_⟩
  rw [World.cell?_alloc_at _ _ _ _ rfl, ← Array.getElem?_toList, h, List.getElem?_map, hj]; rfl
theorem slb_lit (W : World) (cs : Array Value) (l : List (Nat × Nat)) (h : cs.toList = cellsB l) : SlB (W.alloc (.cells cs 45)) (.slice (some ⟨W.heap.size, 0, none⟩) l.length l.length) l := by
  refine .inr ⟨W.heap.size, l.length, rfl, by simp, fun j b hj => ?_⟩
  obtain ⟨h1, h2⟩ := cellsB_at l j b hj
  rw [World.cell?_alloc_at _ _ _ _ rfl, World.cell?_alloc_at _ _ _ _ rfl, ← Array.getElem?_toList, ← Array.getElem?_toList, h]
  exact ⟨h1, h2⟩
theorem F8.new (w : World) (cs : Array Value) (hb : ((w.alloc (.cells #[.int .u32 1123, .int .u32 19, .int .u32 1048691] 22)).alloc (.cells cs 26)).heap[w.heap.size + 1]? = some (.cells cs 26 (0, 0))) :
    F8 w (((w.alloc (.cells #[.int .u32 1123, .int .u32 19, .int .u32 1048691] 22)).alloc (.cells cs 26)).setRow (w.heap.size + 1) (imgC i8 (.slice (some ⟨w.heap.size, 0, none⟩) 3 3))) := by
  have b0 : Below w.heap.size w (w.alloc (.cells #[.int .u32 1123, .int .u32 19, .int .u32 1048691] 22)) := (Below.refl _ w).alloc (Nat.le_refl _) _
  have hs := slw_lit w #[.int .u32 1123, .int .u32 19, .int .u32 1048691] W8 rfl
  have b1 : Below (w.heap.size + 1) (w.alloc (.cells #[.int .u32 1123, .int .u32 19, .int .u32 1048691] 22)) (((w.alloc (.cells #[.int .u32 1123, .int .u32 19, .int .u32 1048691] 22)).alloc (.cells cs 26)).setRow (w.heap.size + 1) (imgC i8 (.slice (some ⟨w.heap.size, 0, none⟩) 3 3))) :=
    below_setRowE ((Below.refl _ _).alloc (by simp) _) (Nat.le_refl _) _
  exact ⟨setRow_heap _ _ _ _ _ _ hb, hs.below (by rw [World.size_alloc]; exact b1), b0.trans (b1.mono (Nat.le_succ _))⟩
theorem rwords_yes (la : List Nat) (a b : Value) (hl : la.length ≤ 1000000) (w : World) (hSa : SlW w a la) (hSb : SlW w b la) : Calls Tryz.prog 19 #[a, b] w fun e w' => e = .returned (.bool true) ∧ Below w.heap.size w w' := by
  have h := rwords_any la la a b hl w hSa hSb
  rw [decide_eq_true rfl] at h; exact h
end Go.Proofs.YtcffpmicencfpabGreat
