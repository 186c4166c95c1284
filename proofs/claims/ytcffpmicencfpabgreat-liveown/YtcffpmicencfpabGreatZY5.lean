/-
  What the laws of layer 9 ask of package live: the contracts of its four functions, as one proposition.
  What the calls that the statements of layer 9 share answer, plainly.
  The statements' own helper 'fixed' (layer 9): it answers true.
-/

import Derived.Test.YtcffpmicencfpabGreatZD6
import Derived.Test.YtcffpmicencfpabGreatZD7
import Derived.Test.YtcffpmicencfpabGreatZY2
import Derived.Test.YtcffpmicencfpabGreatZY3
namespace Go.Proofs.YtcffpmicencfpabGreat
open Go.RowKit Go.Lib Go.Sort Ip Bl Lv Pm
set_option linter.unusedVariables false

structure LvOne : Prop where
  uses : ∀ (x : Ins) (w : World), Calls Tryz.prog 16 #[insV x] w fun e w' => e = .returned (.int .u32 ((usesB x).toNat : Int)) ∧ Below w.heap.size w w'
  sets : ∀ (x : Ins) (w : World), Calls Tryz.prog 17 #[insV x] w fun e w' => e = .returned (.int .u32 ((setsB x).toNat : Int)) ∧ Below w.heap.size w w'
  back : ∀ (l : List Ins) (v : Value) (n : BitVec 32) (_ : l.length ≤ 1000000) (w : World) (_ : SlN w v l), Calls Tryz.prog 18 #[v, .int .u32 (n.toNat : Int)] w fun e w' => e = .returned (.int .u32 ((backB l n).toNat : Int)) ∧ Below w.heap.size w w'
structure LvAll : Prop extends LvOne where
  find : ∀ (i : Img) (v vl : Value) (l : List (Nat × Nat)) (_ : l.length ≤ 1000) (_ : ∀ b ∈ l, b.1 < 4294967296) (_ : i.ok) (w : World) (_ : SlW w v i.words) (_ : SlB w vl l),
    Calls Tryz.prog 5 #[imgV i v, vl] w fun e W' => ∃ (a b : List Nat) (er : Nat), AnsL i l a b er ∧ ∃ ua ub : Value, e = .returned (.tuple #[ua, ub, .int .i64 (er : Int)]) ∧ W'.ownsRow w.heap.size 22 1 ua a.length (a.map wordV) ∧ W'.ownsRow w.heap.size 22 1 ub b.length (b.map wordV) ∧ Below w.heap.size w W'
end Go.Proofs.YtcffpmicencfpabGreat
set_option linter.unusedVariables false
namespace Go.Proofs.YtcffpmicencfpabGreat
namespace Lv
open Bl Ip Pm

def W9 : List Nat := [65683, 115, 4288671855]
def i9 : Img := ⟨(BitVec.ofNat 32 4096), (BitVec.ofNat 32 4096), W9, 0⟩
def B9 : List (Nat × Nat) := [(4096, 3)]
theorem i9_ok : i9.ok := ⟨by decide, by decide, by decide, by decide⟩
set_option maxRecDepth 100000 in
theorem i9_0 : insA i9 4096 = ⟨18, 1, 2, 0, 0⟩ := by kernel_rfl
set_option maxRecDepth 100000 in
theorem i9_1 : insA i9 4100 = ⟨45, 0, 0, 0, 0⟩ := by kernel_rfl
set_option maxRecDepth 100000 in
theorem i9_2 : insA i9 4104 = ⟨2, 0, 0, 0, -8⟩ := by kernel_rfl
set_option maxRecDepth 100000 in
theorem e9_0 : errA i9 4096 = 0 := by kernel_rfl
set_option maxRecDepth 100000 in
theorem e9_1 : errA i9 4100 = 0 := by kernel_rfl
set_option maxRecDepth 100000 in
theorem e9_2 : errA i9 4104 = 0 := by kernel_rfl
theorem s9_0 : (txI i9).suc 4096 = [4100] := by show aftI (insA i9 4096) 4096 = _; rw [i9_0]; decide
theorem s9_1 : (txI i9).suc 4100 = [4104] := by show aftI (insA i9 4100) 4100 = _; rw [i9_1]; decide
theorem s9_2 : (txI i9).suc 4104 = [4096] := by show aftI (insA i9 4104) 4104 = _; rw [i9_2]; decide
theorem n9_0 : (txI i9).ends 4096 = false := by show endsI (insA i9 4096) = _; rw [i9_0]; decide
theorem n9_1 : (txI i9).ends 4100 = false := by show endsI (insA i9 4100) = _; rw [i9_1]; decide
theorem n9_2 : (txI i9).ends 4104 = true := by show endsI (insA i9 4104) = _; rw [i9_2]; decide
theorem c9 {seeds : List Nat} (hs : ∀ x, x ∈ seeds ↔ x = 4096) : Closed (txI i9) seeds [4096, 4100, 4104] := by
  have r0 : Bl.Reach (txI i9) seeds 4096 := reach_seed ((hs _).2 rfl)
  have r1 : Bl.Reach (txI i9) seeds 4100 := reach_step r0 e9_0 (by rw [s9_0]; simp)
  have r2 : Bl.Reach (txI i9) seeds 4104 := reach_step r1 e9_1 (by rw [s9_1]; simp)
  refine ⟨fun x hx => by rw [(hs x).1 hx]; simp, fun c hc h0 x hx => ?_, fun x hx => ?_⟩
  · simp only [List.mem_cons, List.not_mem_nil, or_false] at hc
    rcases hc with rfl | rfl | rfl
    · rw [s9_0] at hx; simp at hx ⊢; omega
    · rw [s9_1] at hx; simp at hx ⊢; omega
    · rw [s9_2] at hx; simp at hx ⊢; omega
  · simp only [List.mem_cons, List.not_mem_nil, or_false] at hx
    rcases hx with rfl | rfl | rfl
    · exact r0
    · exact r1
    · exact r2
theorem f9 {seeds : List Nat} (hs : ∀ x, x ∈ seeds ↔ x = 4096) : AnsF (txI i9) seeds 0 B9 := by
  have e0 : (txI i9).err 4096 = 0 := e9_0
  have e1 : (txI i9).err 4100 = 0 := e9_1
  have e2 : (txI i9).err 4104 = 0 := e9_2
  refine ⟨_, c9 hs, ?_, ?_⟩
  · simp [errL, foldE, e0, e1, e2]
  · rw [if_pos rfl]
    have a0 : (txI i9).adr 0 = 4096 := rfl
    have a1 : (txI i9).adr 1 = 4100 := rfl
    have a2 : (txI i9).adr 2 = 4104 := rfl
    have no : ∀ x, x ≠ 4096 → seeds.contains x = false := fun x hx => by
      cases h : seeds.contains x with
      | false => rfl
      | true => exact absurd ((hs _).1 (List.contains_iff_mem.1 h)) hx
    have d0 : begins (txI i9) seeds [4096, 4100, 4104] 0 = true := begins_zero
    have d1 : begins (txI i9) seeds [4096, 4100, 4104] 1 = false := by
      unfold begins leader
      rw [a0, a1, n9_0, no 4100 (by decide)]
      simp [n9_0, n9_1, n9_2, s9_2]
    have d2 : begins (txI i9) seeds [4096, 4100, 4104] 2 = false := by
      unfold begins leader
      rw [a1, a2, n9_1, no 4104 (by decide)]
      simp [n9_0, n9_1, n9_2, s9_2]
    have hn : (txI i9).n = 3 := rfl
    rw [hn]
    simp only [blks, a0, a1, a2, d0, d1, d2]
    simp [adrL, a0, bump, B9]
theorem r9 : rightP i9 B9 := f9 (fun x => by simp [seedsI, i9, B9])
theorem r9_no : ¬ rightP i9 [] := fun h => by
  have := (whole_of i9_ok h).ent
  simp at this
theorem nx9 : nextV i9 B9 0 = ([0], false) := by
  have hl : lastA (B9.getD (0 : Int).toNat (0, 0)) = 4104 := by decide
  unfold nextV
  rw [hl, i9_2, if_pos ⟨by decide, by decide, e9_2⟩]
  have h : aftI ⟨2, 0, 0, 0, -8⟩ 4104 = [4096] := by decide
  rw [h]
  decide
theorem cd9 : codeI i9 (4096, 3) = [⟨18, 1, 2, 0, 0⟩, ⟨45, 0, 0, 0, 0⟩, ⟨2, 0, 0, 0, -8⟩] := by
  unfold codeI
  show [insA i9 4096, insA i9 4100, insA i9 4104] = _
  rw [i9_0, i9_1, i9_2]
theorem u9_0 : usesB ⟨18, 1, 2, 0, 0⟩ = (BitVec.ofNat 32 4) ∧ setsB ⟨18, 1, 2, 0, 0⟩ = (BitVec.ofNat 32 2) := by decide +kernel
theorem u9_1 : usesB ⟨45, 0, 0, 0, 0⟩ = (BitVec.ofNat 32 261120) ∧ setsB ⟨45, 0, 0, 0, 0⟩ = (BitVec.ofNat 32 1024) := by decide +kernel
theorem u9_2 : usesB ⟨2, 0, 0, 0, -8⟩ = (BitVec.ofNat 32 0) ∧ setsB ⟨2, 0, 0, 0, -8⟩ = (BitVec.ofNat 32 0) := by decide +kernel
theorem bk9 (n : BitVec 32) : backB [⟨18, 1, 2, 0, 0⟩, ⟨45, 0, 0, 0, 0⟩, ⟨2, 0, 0, 0, -8⟩] n = (((evenB n &&& ~~~ (BitVec.ofNat 32 1024)) ||| (BitVec.ofNat 32 261120)) &&& ~~~ (BitVec.ofNat 32 2)) ||| (BitVec.ofNat 32 4) := by
  rw [back_cons, back_cons, back_cons, back_nil]
  unfold stepB
  rw [u9_0.1, u9_0.2, u9_1.1, u9_1.2, u9_2.1, u9_2.2]
  have h9 : evenB n &&& (BitVec.ofNat 32 4294967295) = evenB n := BitVec.and_allOnes
  rw [BitVec.or_zero, show ~~~(BitVec.ofNat 32 0) = (BitVec.ofNat 32 4294967295) from rfl, h9]
theorem le9 : LeastF (flowI i9 B9) [(BitVec.ofNat 32 261124)] ∧ behL (flowI i9 B9) [(BitVec.ofNat 32 261124)] = [(BitVec.ofNat 32 261124)] := by
  have hcode : (flowI i9 B9).code 0 = [⟨18, 1, 2, 0, 0⟩, ⟨45, 0, 0, 0, 0⟩, ⟨2, 0, 0, 0, -8⟩] := cd9
  have hnext : (flowI i9 B9).next 0 = [0] := by show (nextV i9 B9 0).1 = _; rw [nx9]
  have hloose : (flowI i9 B9).loose 0 = false := by
    show looseX (insA i9 4104) (nextV i9 B9 0).2 = false
    rw [nx9, i9_2]; decide
  have hbeh : ∀ A, behF (flowI i9 B9) A 0 = A.getD 0 (BitVec.ofNat 32 0) := fun A => by
    unfold behF
    rw [hloose, hnext]
    show (BitVec.ofNat 32 0) ||| A.getD 0 (BitVec.ofNat 32 0) = _
    simp
  have hahd : ∀ A, ahdF (flowI i9 B9) A 0 = (((evenB (A.getD 0 (BitVec.ofNat 32 0)) &&& ~~~ (BitVec.ofNat 32 1024)) ||| (BitVec.ofNat 32 261120)) &&& ~~~ (BitVec.ofNat 32 2)) ||| (BitVec.ofNat 32 4) := fun A => by
    unfold ahdF
    rw [hcode, hbeh, bk9]
  refine ⟨⟨⟨rfl, fun k hk => ?_⟩, fun A' hA k => ?_⟩, ?_⟩
  · have hk0 : k = 0 := by have : (flowI i9 B9).n = 1 := rfl; omega
    subst hk0
    rw [hahd]
    show (BitVec.ofNat 32 261124) = (((evenB (BitVec.ofNat 32 261124) &&& ~~~ (BitVec.ofNat 32 1024)) ||| (BitVec.ofNat 32 261120)) &&& ~~~ (BitVec.ofNat 32 2)) ||| (BitVec.ofNat 32 4)
    decide
  · by_cases hk0 : k = 0
    · subst hk0
      rw [hA.fix 0 (by show 0 < 1; decide), hahd]
      show leB (BitVec.ofNat 32 261124) _
      intro i hi
      have hi32 : i < 32 := by
        by_cases h : i < 32
        · exact h
        · rw [BitVec.getLsbD_of_ge _ _ (by omega)] at hi; cases hi
      have hd : ∀ j, j < 32 → ((BitVec.ofNat 32 261124)).getLsbD j = true → ((((BitVec.ofNat 32 261120)).getLsbD j && !((BitVec.ofNat 32 2)).getLsbD j) || ((BitVec.ofNat 32 4)).getLsbD j) = true := by decide
      have h := hd i hi32 hi
      rw [BitVec.getLsbD_or, BitVec.getLsbD_and, BitVec.getLsbD_or, BitVec.getLsbD_not, decide_eq_true hi32, Bool.true_and]
      rw [Bool.or_eq_true, Bool.and_eq_true] at h ⊢
      rcases h with h | h
      · exact .inl ⟨by rw [h.1, Bool.or_true], h.2⟩
      · exact .inr h
    · rw [getD_none (A := [(BitVec.ofNat 32 261124)]) (by simp; omega)]
      exact leB_zero _
  · show [behF (flowI i9 B9) [(BitVec.ofNat 32 261124)] 0] = _
    rw [hbeh]; rfl
theorem a9 : AnsL i9 B9 [261124] [261124] 0 := .inl ⟨r9, rfl, [(BitVec.ofNat 32 261124)], le9.1, rfl, by rw [le9.2]; rfl⟩
theorem a9_no : AnsL i9 [] [] [] 1 := .inr ⟨r9_no, rfl, rfl, rfl⟩
theorem bk9_two : backB [⟨18, 1, 2, 0, 0⟩, ⟨27, 3, 1, 1, 0⟩] (BitVec.ofNat 32 8) = (BitVec.ofNat 32 4) := by decide +kernel
theorem us9 : usesB ⟨27, 3, 1, 1, 0⟩ = (BitVec.ofNat 32 2) ∧ setsB ⟨27, 3, 1, 1, 0⟩ = (BitVec.ofNat 32 8) ∧ usesB ⟨27, 1, 2, 3, 0⟩ = (BitVec.ofNat 32 12) ∧ usesB ⟨3, 0, 0, 0, 0⟩ = (BitVec.ofNat 32 4294967294) := by decide +kernel
end Lv
end Go.Proofs.YtcffpmicencfpabGreat
namespace Go.Proofs.YtcffpmicencfpabGreat
open Go.RowKit Go.Lib Go.Sort Ip Bl Lv Pm
set_option linter.unusedSimpArgs false
set_option linter.unusedVariables false

def L9 : List Ins := [⟨18, 1, 2, 0, 0⟩, ⟨27, 3, 1, 1, 0⟩]
def C9 : Array Value := #[.int .i64 18, .int .i64 1, .int .i64 2, .int .i64 0, .int .i64 0, .int .i64 27, .int .i64 3, .int .i64 1, .int .i64 1, .int .i64 0]
/-- While fixed is at work: its instructions, its image's box. -/
structure F9 (w : World) (W : World) : Prop where
  sl : SlN W (.slice (some ⟨w.heap.size, 0, none⟩) 2 2) L9
  ib : W.heap[w.heap.size + 2]? = some (.cells (imgC i9 (.slice (some ⟨w.heap.size + 1, 0, none⟩) 3 3)) 26 (0, 0))
  lw : SlW W (.slice (some ⟨w.heap.size + 1, 0, none⟩) 3 3) W9
  low : Below w.heap.size w W
theorem F9.below {w W W' : World} (h : F9 w W) (hb : Below W.heap.size W W') : F9 w W' := ⟨h.sl.below hb, keptN hb h.ib, h.lw.below hb, h.low.trans (hb.mono h.low.size)⟩
theorem F9.five {w W : World} (h : F9 w W) : W.cell? ⟨w.heap.size, 5, none⟩ = some (.int .i64 27) ∧ W.cell? ⟨w.heap.size, 6, none⟩ = some (.int .i64 3) ∧ W.cell? ⟨w.heap.size, 7, none⟩ = some (.int .i64 1) ∧ W.cell? ⟨w.heap.size, 8, none⟩ = some (.int .i64 1) ∧ W.cell? ⟨w.heap.size, 9, none⟩ = some (.int .i64 0) :=
  SlN.five (i := 1) h.sl rfl
theorem sln_lit (W : World) (cs : Array Value) (l : List Ins) (h : cs.toList = csN l) : SlN (W.alloc (.cells cs 38)) (.slice (some ⟨W.heap.size, 0, none⟩) l.length l.length) l := by
  refine .inr ⟨W.heap.size, 0, l.length, rfl, by simp, fun j hj => ?_⟩
  rw [World.cell?_alloc_at _ _ _ _ rfl, ← Array.getElem?_toList, h, Nat.zero_add]
theorem F9.new (w : World) (cs : Array Value) (hb : (((w.alloc (.cells C9 38)).alloc (.cells #[.int .u32 65683, .int .u32 115, .int .u32 4288671855] 22)).alloc (.cells cs 26)).heap[w.heap.size + 2]? = some (.cells cs 26 (0, 0))) :
    F9 w ((((w.alloc (.cells C9 38)).alloc (.cells #[.int .u32 65683, .int .u32 115, .int .u32 4288671855] 22)).alloc (.cells cs 26)).setRow (w.heap.size + 2) (imgC i9 (.slice (some ⟨w.heap.size + 1, 0, none⟩) 3 3))) := by
  have b0 : Below w.heap.size w (w.alloc (.cells C9 38)) := (Below.refl _ w).alloc (Nat.le_refl _) _
  have hn := sln_lit w C9 L9 rfl
  have b1 := (Below.refl (w.alloc (.cells C9 38)).heap.size (w.alloc (.cells C9 38))).alloc (Nat.le_refl _) (.cells #[.int .u32 65683, .int .u32 115, .int .u32 4288671855] 22)
  have hs := slw_lit (w.alloc (.cells C9 38)) #[.int .u32 65683, .int .u32 115, .int .u32 4288671855] W9 rfl
  rw [World.size_alloc] at hs b1
  have b2 : Below (w.heap.size + 2) ((w.alloc (.cells C9 38)).alloc (.cells #[.int .u32 65683, .int .u32 115, .int .u32 4288671855] 22)) ((((w.alloc (.cells C9 38)).alloc (.cells #[.int .u32 65683, .int .u32 115, .int .u32 4288671855] 22)).alloc (.cells cs 26)).setRow (w.heap.size + 2) (imgC i9 (.slice (some ⟨w.heap.size + 1, 0, none⟩) 3 3))) :=
    below_setRowE ((Below.refl _ _).alloc (by simp) _) (Nat.le_refl _) _
  have e1 : (w.alloc (.cells C9 38)).heap.size = w.heap.size + 1 := World.size_alloc _ _
  have e2 : ((w.alloc (.cells C9 38)).alloc (.cells #[.int .u32 65683, .int .u32 115, .int .u32 4288671855] 22)).heap.size = w.heap.size + 2 := by rw [World.size_alloc, World.size_alloc]
  exact ⟨(hn.below (by rw [e1]; exact b1)).below (by rw [e2]; exact b2), setRow_heap _ _ _ _ _ _ hb, hs.below (by rw [e2]; exact b2), b0.trans ((b1.mono (by omega)).trans (b2.mono (by omega)))⟩
theorem insBox9 (X : Ins) : (Tryz.prog.info? 38).map (·.size) = some (insC X).size := by kernel_rfl
theorem slb_nil (W : World) : SlB W (.slice none 0 0) [] := .inl ⟨none, 0, rfl, rfl⟩
set_option maxHeartbeats 2000000 in
set_option maxRecDepth 100000 in
theorem fixed9_any (HL : LvAll) (w : World) : Calls Tryz.prog 7 #[] w fun e w' => e = .returned (.bool true) ∧ Below w.heap.size w w' := by
  have hbx := heap_alloc_new ((w.alloc (.cells C9 38)).alloc (.cells #[.int .u32 65683, .int .u32 115, .int .u32 4288671855] 22)) (.cells #[.int .u32 0, .int .u32 0, .slice none 0 0, .int .i64 0] 26)
  rw [World.size_alloc, World.size_alloc] at hbx
  have HNEW := hideE (F9.new w _ hbx)
  have HU1 : Hid (∀ W, Calls Tryz.prog 16 #[.agg #[.int .i64 27, .int .i64 3, .int .i64 1, .int .i64 1, .int .i64 0]] W fun e w' => e = .returned (.int .u32 2) ∧ Below W.heap.size W w') := hideE (fun W => by have h := HL.uses ⟨27, 3, 1, 1, 0⟩ W; rw [us9.1] at h; exact h)
  have HS1 : Hid (∀ W, Calls Tryz.prog 17 #[.agg #[.int .i64 27, .int .i64 3, .int .i64 1, .int .i64 1, .int .i64 0]] W fun e w' => e = .returned (.int .u32 8) ∧ Below W.heap.size W w') := hideE (fun W => by have h := HL.sets ⟨27, 3, 1, 1, 0⟩ W; rw [us9.2.1] at h; exact h)
  have HU2 : Hid (∀ W, Calls Tryz.prog 16 #[.agg #[.int .i64 27, .int .i64 1, .int .i64 2, .int .i64 3, .int .i64 0]] W fun e w' => e = .returned (.int .u32 12) ∧ Below W.heap.size W w') := hideE (fun W => by have h := HL.uses ⟨27, 1, 2, 3, 0⟩ W; rw [us9.2.2.1] at h; exact h)
  have HU3 : Hid (∀ W, Calls Tryz.prog 16 #[.agg #[.int .i64 45, .int .i64 0, .int .i64 0, .int .i64 0, .int .i64 0]] W fun e w' => e = .returned (.int .u32 261120) ∧ Below W.heap.size W w') := hideE (fun W => by have h := HL.uses ⟨45, 0, 0, 0, 0⟩ W; rw [u9_1.1] at h; exact h)
  have HS3 : Hid (∀ W, Calls Tryz.prog 17 #[.agg #[.int .i64 45, .int .i64 0, .int .i64 0, .int .i64 0, .int .i64 0]] W fun e w' => e = .returned (.int .u32 1024) ∧ Below W.heap.size W w') := hideE (fun W => by have h := HL.sets ⟨45, 0, 0, 0, 0⟩ W; rw [u9_1.2] at h; exact h)
  have HU4 : Hid (∀ W, Calls Tryz.prog 16 #[.agg #[.int .i64 3, .int .i64 0, .int .i64 0, .int .i64 0, .int .i64 0]] W fun e w' => e = .returned (.int .u32 4294967294) ∧ Below W.heap.size W w') := hideE (fun W => by have h := HL.uses ⟨3, 0, 0, 0, 0⟩ W; rw [us9.2.2.2] at h; exact h)
  have HBK : Hid (∀ W, F9 w W → Calls Tryz.prog 18 #[.slice (some ⟨w.heap.size, 0, none⟩) 2 2, .int .u32 8] W fun e w' => e = .returned (.int .u32 4) ∧ Below W.heap.size W w') := hideE (fun W hW => by have h := HL.back L9 _ (BitVec.ofNat 32 8) (by decide) W hW.sl; rw [show backB L9 (BitVec.ofNat 32 8) = (BitVec.ofNat 32 4) from bk9_two] at h; exact h)
  go_enter Tryz.func7, Tryz.ntmps7
  go_upto_region 3 with (refine wpList_store_row rfl 26 _ _ rfl (w.heap.size + 2) _ rfl rfl _ _ hbx (by kernel_rfl) rfl (by kernel_rfl) ?_)
  refine gen_world (F9 w) HNEW.out ?_
  clear hbx HNEW
  intro wa h1
  have hib := h1.ib
  have HLW := hideE (h1.lw.alloc (.cells #[.int .u32 4096, .int .i64 3] 45))
  have HSB := hideE (slb_lit wa #[.int .u32 4096, .int .i64 3] B9 rfl)
  have HB1 := hideE ((Below.refl wa.heap.size wa).alloc (Nat.le_refl _) (.cells #[.int .u32 4096, .int .i64 3] 45))
  have H1 := hideE h1
  clear h1
  go_upto_region 4 with (first
    | (refine wpList_load_row rfl 26 _ rfl (w.heap.size + 2) rfl _ _ _ _ hib Tryz.underlying26 rfl (by kernel_rfl) ?_)
    | (go_at_call 5; refine (HL.find i9 _ _ B9 (by decide) (by decide) i9_ok _ HLW.out HSB.out).mono ?_; rintro e wb ⟨a, b, er, hans, ua, ub, rfl, hra, hrb, hb⟩; obtain ⟨hs1, hs2, hs3⟩ := a9.same hans; subst hs1; subst hs2; subst hs3))
  have hb1 := HB1.out.trans (hb.mono HB1.out.size)
  refine gen_world (fun W => F9 w W ∧ SlW W ua [261124] ∧ SlW W ub [261124]) ⟨H1.out.below hb1, slw_of_owns hra, slw_of_owns hrb⟩ ?_
  clear hib HLW HSB HB1 H1 hb hb1 hra hrb hans
  rintro wc ⟨h2, hsa, hsb⟩
  have hib := h2.ib
  have hlw := h2.lw
  have H2 := hideE h2
  have HSA := hideE hsa
  have HSB := hideE hsb
  clear h2 hsa hsb
  go_upto_region 5 with (first
    | (refine wpList_load_row rfl 26 _ rfl (w.heap.size + 2) rfl _ _ _ _ hib Tryz.underlying26 rfl (by kernel_rfl) ?_)
    | (go_at_call 5; refine (HL.find i9 _ _ [] (by decide) (by decide) i9_ok _ hlw (slb_nil _)).mono ?_; rintro e wb ⟨a, b, er, hans, uc, ud, rfl, hra, hrb, hb⟩; obtain ⟨hs1, hs2, hs3⟩ := a9_no.same hans; subst hs1; subst hs2; subst hs3))
  refine gen_world (fun W => F9 w W ∧ SlW W ua [261124] ∧ SlW W ub [261124]) ⟨H2.out.below hb, HSA.out.below hb, HSB.out.below hb⟩ ?_
  clear hib hlw H2 HSA HSB hb hra hrb hans
  rintro wd ⟨h3, hsa, hsb⟩
  obtain ⟨c0, c1, c2, c3, c4⟩ := h3.five
  have H3 := hideE h3
  have HSA := hideE hsa
  have HSB := hideE hsb
  clear h3 hsa hsb
  go_wp2_with (first
    | (go_at_call_of 16 (Value.agg #[Value.int IntKind.i64 27, Value.int IntKind.i64 3, Value.int IntKind.i64 1, Value.int IntKind.i64 1, Value.int IntKind.i64 0]); refine (HU1.out _).mono ?_; rintro e w1 ⟨rfl, hb1⟩; have h1 := H3.out.below hb1; obtain ⟨d0, d1, d2, d3, d4⟩ := h1.five)
    | (go_at_call_of 17 (Value.agg #[Value.int IntKind.i64 27, Value.int IntKind.i64 3, Value.int IntKind.i64 1, Value.int IntKind.i64 1, Value.int IntKind.i64 0]); refine (HS1.out _).mono ?_; rintro e w2 ⟨rfl, hb2⟩)
    | (go_at_call_of 16 (Value.agg #[Value.int IntKind.i64 27, Value.int IntKind.i64 1, Value.int IntKind.i64 2, Value.int IntKind.i64 3, Value.int IntKind.i64 0]); refine (HU2.out _).mono ?_; rintro e w3 ⟨rfl, hb3⟩)
    | (go_at_call 18; refine (HBK.out _ ((h1.below hb2).below hb3)).mono ?_; rintro e w4 ⟨rfl, hb4⟩)
    | (go_at_call_of 16 (Value.agg #[Value.int IntKind.i64 45, Value.int IntKind.i64 0, Value.int IntKind.i64 0, Value.int IntKind.i64 0, Value.int IntKind.i64 0]); refine (HU3.out _).mono ?_; rintro e w5 ⟨rfl, hb5⟩)
    | (go_at_call_of 17 (Value.agg #[Value.int IntKind.i64 45, Value.int IntKind.i64 0, Value.int IntKind.i64 0, Value.int IntKind.i64 0, Value.int IntKind.i64 0]); refine (HS3.out _).mono ?_; rintro e w6 ⟨rfl, hb6⟩)
    | (go_at_call_of 16 (Value.agg #[Value.int IntKind.i64 3, Value.int IntKind.i64 0, Value.int IntKind.i64 0, Value.int IntKind.i64 0, Value.int IntKind.i64 0]); refine (HU4.out _).mono ?_; rintro e w7 ⟨rfl, hb7⟩)
    | (go_at_call_of 19 ua; refine (rwords_yes [261124] ua _ (by decide) _ ((((((((HSA.out.below hb1).below hb2).below hb3).below hb4).below hb5).below hb6).below hb7).alloc _) (slw_lit w7 #[.int .u32 261124] [261124] rfl)).mono ?_; rintro e w8 ⟨rfl, hb8⟩)
    | (go_at_call_of 19 ub; refine (rwords_yes [261124] ub _ (by decide) _ ((((((((((HSB.out.below hb1).below hb2).below hb3).below hb4).below hb5).below hb6).below hb7).alloc _).below hb8).alloc _) (slw_lit w8 #[.int .u32 261124] [261124] rfl)).mono ?_; rintro e w9 ⟨rfl, hb9⟩))
  go_ret
  have g1 := (((((((H3.out.below hb1).below hb2).below hb3).below hb4).below hb5).below hb6).below hb7).below ((Below.refl _ w7).alloc (Nat.le_refl _) (.cells #[.int .u32 261124] 22))
  have g2 := (g1.below hb8).below ((Below.refl _ w8).alloc (Nat.le_refl _) (.cells #[.int .u32 261124] 22))
  exact ⟨rfl, (g2.below hb9).low⟩
end Go.Proofs.YtcffpmicencfpabGreat
