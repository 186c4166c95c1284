/-
  What lies in memory when the flow is laid, and how it is handed on; blocks have two behind them at most.
  Contract of package live's flowOf: what is known at first.
-/
import Derived.Deep.DeepCutAuto
import Derived.Deep.CutRange
import Derived.Deep.RegionLaw
import Derived.Deep.AppendLies
import Derived.Test.YtcffpmicencfpabGreatZX3
import Derived.Test.YtcffpmicencfpabGreatZX4
namespace Go.Proofs.YtcffpmicencfpabGreat
open Go.RowKit Go.Lib Go.Sort Go.Maps Ip Bl Lv Pm
set_option linter.unusedSimpArgs false
set_option linter.unusedVariables false

theorem next_two {i : Img} {l : List (Nat × Nat)} {k : Int} (h : FitB l) : (nextV i l k).1.length ≤ 2 := by
  unfold nextV
  split
  · show (nxtL l (aftI (insA i (lastA (l.getD k.toNat (0, 0)))) (lastA (l.getD k.toNat (0, 0))))).length ≤ 2
    rw [← prg_nxt h.rise (aft_pair _ _)]
    have h2 : (aftI (insA i (lastA (l.getD k.toNat (0, 0)))) (lastA (l.getD k.toNat (0, 0)))).length ≤ 2 := aft_two _ _ _ _ _ _
    exact Nat.le_trans (prgN_len _ _) h2
  · simp
def zP : Pt := ⟨(BitVec.ofNat 32 0), (BitVec.ofNat 32 0), .slice none 0 0, .slice none 0 0, false⟩
theorem infoP : (Tryz.prog.info? 67).map (fun i => (i.zero, i.size, i.bytes)) = some (some (.agg #[.int .u32 0, .int .u32 0, .slice none 0 0, .slice none 0 0, .bool false]), 5, 64) := by kernel_rfl
theorem ptsC_rep (N : Nat) {j : Nat} (hj : j < N * 5) : (ptsC (List.replicate N zP))[j]? = [Value.int .u32 0, .int .u32 0, .slice none 0 0, .slice none 0 0, .bool false][j % 5]? := by
  have h : (List.replicate N zP)[j / 5]? = some zP := by rw [List.getElem?_replicate, if_pos (by omega)]
  have h2 := ptsC_get (List.replicate N zP) (j := j % 5) h (by omega)
  rw [show j / 5 * 5 + j % 5 = j by omega] at h2
  rw [h2]; rfl
theorem makeP (N : Nat) (hN : N ≤ 1000) : ∃ M : Array Value, (∀ W : World, (Instr.makeSlice 47 (.int .i64 (N : Int)) (.int .i64 (N : Int))).run Tryz.prog W = .ok (.slice (some ⟨W.heap.size, 0, none⟩) N N) (W.alloc (.cells M 67))) ∧ M.toList = ptsC (List.replicate N zP) := by
  obtain ⟨i0, hi, hz0, hz1, hz2⟩ := info_parts infoP
  refine ⟨madeCells (Value.agg #[.int .u32 0, .int .u32 0, .slice none 0 0, .slice none 0 0, .bool false]).cells (N * i0.size), fun W => ?_, ?_⟩
  · have h := run_make (P := Tryz.prog) W 47 67 i0 (.agg #[.int .u32 0, .int .u32 0, .slice none 0 0, .slice none 0 0, .bool false]) Tryz.underlying47 hi hz0 .i64 .i64 (N : Int) (N : Int) (by omega) (by omega) (by rw [hz2]; omega) (by omega)
    simpa using h
  · rw [hz1]
    apply List.ext_getElem?
    intro j
    by_cases hj : j < N * 5
    · rw [ptsC_rep N hj]
      have hr : j % 5 = 0 ∨ j % 5 = 1 ∨ j % 5 = 2 ∨ j % 5 = 3 ∨ j % 5 = 4 := by omega
      rcases hr with h | h | h | h | h <;> simp [madeCells, hj, h, Value.cells]
    · have h2 : (ptsC (List.replicate N zP))[j]? = none := List.getElem?_eq_none (by rw [ptsC_len, List.length_replicate]; omega)
      rw [h2]
      simp [madeCells, hj]
section
variable {w0 : World} {B0 gf n : Nat} {va vb vp vw : Value} {A B : List (BitVec 32)} {P : List Pt} {wt : List Nat} {nx bf : Nat → List Nat} {W W' : World}
theorem rep_get {n k : Nat} {p : Pt} (h : (List.replicate n zP)[k]? = some p) : p = zP := by
  rw [List.getElem?_replicate] at h
  split at h
  · injection h with h; exact h.symm
  · cases h
/-- The flow, just laid. -/
theorem FM.init {ga gb gp : Nat} {M Mp : Array Value} (hn : n ≤ 1000) (hM : M.toList = (natL (List.replicate n (BitVec.ofNat 32 0))).map wordV) (hMp : Mp.toList = ptsC (List.replicate n zP))
    (hf : W.heap[gf]? = some (.cells #[.slice (some ⟨ga, 0, none⟩) n n, .slice (some ⟨gb, 0, none⟩) n n, .slice (some ⟨gp, 0, none⟩) n n, .slice none 0 0] 50 (0, 0)))
    (ha : W.heap[ga]? = some (.cells M 22 (0, 0))) (hb : W.heap[gb]? = some (.cells M 22 (0, 0))) (hp : W.heap[gp]? = some (.cells Mp 67 (0, 0)))
    (hab : ga ≠ gb) (lf : B0 ≤ gf) (la : B0 ≤ ga) (lb : B0 ≤ gb) (lp : B0 ≤ gp) (hlow : Below B0 w0 W) :
    FM w0 B0 gf (.slice (some ⟨ga, 0, none⟩) n n) (.slice (some ⟨gb, 0, none⟩) n n) (.slice (some ⟨gp, 0, none⟩) n n) (.slice none 0 0) n (List.replicate n (BitVec.ofNat 32 0)) (List.replicate n (BitVec.ofNat 32 0)) (List.replicate n zP) [] (fun _ => []) (fun _ => []) W := by
  have hs : M.size = n := by rw [← Array.length_toList, hM, List.length_map, natL_len, List.length_replicate]
  have hsp : Mp.size = n * 5 := by rw [← Array.length_toList, hMp, ptsC_len, List.length_replicate]
  have row : ∀ g, B0 ≤ g → W.heap[g]? = some (.cells M 22 (0, 0)) → W.ownsRow B0 22 1 (.slice (some ⟨g, 0, none⟩) n n) n ((natL (List.replicate n (BitVec.ofNat 32 0))).map wordV) := fun g hg h =>
    ⟨by rw [List.length_map, natL_len, List.length_replicate, Nat.mul_one], .inr ⟨g, n, M, rfl, hg, h, Nat.le_refl _, by unfold maxLen; omega, by rw [Nat.mul_one]; exact hs, by rw [← hM]; exact List.take_of_length_le (by rw [Array.length_toList]; omega)⟩⟩
  refine ⟨hf, lf, row ga la ha, row gb lb hb, ⟨by rw [ptsC_len, List.length_replicate], .inr ⟨gp, n, Mp, rfl, lp, hp, Nat.le_refl _, by unfold maxLen; omega, hsp, by rw [← hMp]; exact List.take_of_length_le (by rw [Array.length_toList]; omega)⟩⟩, World.ownsRow_nil _ _ _ _, ⟨fun k p h => ?_, fun k p h => ?_, fun j k p q h _ => ?_, fun j k p q _ h _ => ?_⟩, fun k e e2 => ?_, fun k p h => ⟨ap_nil _, ap_nil _⟩, hlow⟩
  · rw [rep_get h]; exact World.ownsRow_nil _ _ _ _
  · rw [rep_get h]; exact World.ownsRow_nil _ _ _ _
  · rw [rep_get h]; exact ap_nil _
  · rw [rep_get h]; exact ap_nil _
  · have e1 : ga = k := by injection e
    have e3 : gb = k := by injection e2
    omega
/-- A box below all rows is written; it is told from another world on. -/
theorem FM.rebase (h : FM w0 B0 gf va vb vp vw n A B P wt nx bf W) {g B' : Nat} {w1 : World} (hg : W.grownBy W' (some g)) (hgB : g < B0) (hb : B' ≤ B0) (hlow : Below B' w1 W') : FM w1 B' gf va vb vp vw n A B P wt nx bf W' := by
  have kp : ∀ {e s m : Nat} {v : Value} {xs : List Value}, W.ownsRow B0 e s v m xs → W'.ownsRow B' e s v m xs := fun hr => own_lowN (hr.kept hg (.inr fun e => by have := (hr.lt g e).1; omega)) hb
  have hbig := h.big
  exact ⟨(hg.block gf (Array.getElem?_eq_some_iff.1 h.box).1 (by intro e; injection e; omega)).trans h.box, by omega, kp h.ra, kp h.rb, kp h.rp, kp h.rw, ⟨fun k p hp => kp (h.fs.rn k p hp), fun k p hp => kp (h.fs.rf k p hp), h.fs.nb, h.fs.bb⟩, h.ab, h.wn, hlow⟩
end
theorem at4_1 (w1 : World) {s : Nat} (hs : w1.heap.size = s) (o1 o2 o3 o4 : Obj) : (((((w1.alloc o1).alloc o2).alloc o3).alloc o4).drew).heap[s]? = some o1 := by
  subst hs
  show ((((w1.alloc o1).alloc o2).alloc o3).alloc o4).heap[w1.heap.size]? = some o1
  rw [Below.heap_alloc _ _ _ (by simp only [World.size_alloc]; omega), Below.heap_alloc _ _ _ (by simp only [World.size_alloc]; omega), Below.heap_alloc _ _ _ (by simp only [World.size_alloc]; omega)]
  exact heap_alloc_new w1 o1
theorem at4_2 (w1 : World) {s : Nat} (hs : w1.heap.size = s) (o1 o2 o3 o4 : Obj) : (((((w1.alloc o1).alloc o2).alloc o3).alloc o4).drew).heap[s + 1]? = some o2 := by
  subst hs
  show ((((w1.alloc o1).alloc o2).alloc o3).alloc o4).heap[w1.heap.size + 1]? = some o2
  rw [Below.heap_alloc _ _ _ (by simp only [World.size_alloc]; omega), Below.heap_alloc _ _ _ (by simp only [World.size_alloc]; omega)]
  have h := heap_alloc_new (w1.alloc o1) o2
  rwa [World.size_alloc] at h
theorem at4_3 (w1 : World) {s : Nat} (hs : w1.heap.size = s) (o1 o2 o3 o4 : Obj) : (((((w1.alloc o1).alloc o2).alloc o3).alloc o4).drew).heap[s + 1 + 1]? = some o3 := by
  subst hs
  show ((((w1.alloc o1).alloc o2).alloc o3).alloc o4).heap[w1.heap.size + 1 + 1]? = some o3
  rw [Below.heap_alloc _ _ _ (by simp only [World.size_alloc]; omega)]
  have h := heap_alloc_new ((w1.alloc o1).alloc o2) o3
  rwa [World.size_alloc, World.size_alloc] at h
theorem at4_4 (w1 : World) {s : Nat} (hs : w1.heap.size = s) (o1 o2 o3 o4 : Obj) : (((((w1.alloc o1).alloc o2).alloc o3).alloc o4).drew).heap[s + 1 + 1 + 1]? = some o4 := by
  subst hs
  show ((((w1.alloc o1).alloc o2).alloc o3).alloc o4).heap[w1.heap.size + 1 + 1 + 1]? = some o4
  have h := heap_alloc_new (((w1.alloc o1).alloc o2).alloc o3) o4
  rwa [World.size_alloc, World.size_alloc, World.size_alloc] at h
theorem low4 (w1 : World) {s : Nat} (hs : w1.heap.size = s) (o1 o2 o3 o4 : Obj) : Below s w1 ((((w1.alloc o1).alloc o2).alloc o3).alloc o4).drew := by
  subst hs
  exact (((((Below.refl _ w1).alloc (Nat.le_refl _) o1).alloc (by simp only [World.size_alloc]; omega) o2).alloc (by simp only [World.size_alloc]; omega) o3).alloc (by simp only [World.size_alloc]; omega) o4).drew
def nxT (F : Fw) (t : Nat) : Nat → List Nat := fun k => if k < t then F.next k else []
theorem nxT_zero (F : Fw) : nxT F 0 = fun _ => [] := by funext k; unfold nxT; rw [if_neg (Nat.not_lt_zero k)]
theorem nxT_succ (F : Fw) (t : Nat) : setN (nxT F t) t (F.next t) = nxT F (t + 1) := by
  funext k
  unfold setN nxT
  by_cases e : k = t
  · subst e; rw [if_pos rfl, if_pos (Nat.lt_succ_self k)]
  · rw [if_neg e]
    by_cases e2 : k < t
    · rw [if_pos e2, if_pos (by omega)]
    · rw [if_neg e2, if_neg (by omega)]
/-- The parts of the blocks below t are done, the others wait not yet. -/
def PartS (F : Fw) (t : Nat) (P : List Pt) : Prop := ∀ (k : Nat) (p : Pt), P[k]? = some p → (k < t → p.nd = needF F k ∧ p.mo = mostF F k ∧ p.wa = true) ∧ (t ≤ k → p.wa = false)
theorem PartS.start (F : Fw) (n : Nat) : PartS F 0 (List.replicate n zP) := fun k p h => ⟨fun c => absurd c (Nat.not_lt_zero k), fun _ => by rw [rep_get h]; rfl⟩
def coreB (p : Pt) : BitVec 32 × BitVec 32 × Value × Bool := (p.nd, p.mo, p.nv, p.wa)
/-- Parts that differ, if at all, in those ahead of them. -/
def SameQ (P P' : List Pt) : Prop := P'.map coreB = P.map coreB
theorem SameQ.put {P : List Pt} {k : Nat} {p : Pt} (h : P[k]? = some p) (v : Value) : SameQ P (P.set k ⟨p.nd, p.mo, p.nv, v, p.wa⟩) := by
  unfold SameQ
  rw [List.map_set]
  apply List.ext_getElem?
  intro j
  rw [List.getElem?_set, List.length_map]
  by_cases e : k = j
  · subst e
    rw [if_pos rfl, if_pos (List.getElem?_eq_some_iff.1 h).1, List.getElem?_map, h]; rfl
  · rw [if_neg e]
theorem SameQ.trans {P Q R : List Pt} (h : SameQ P Q) (k : SameQ Q R) : SameQ P R := Eq.trans k h
theorem SameQ.get {P Q : List Pt} (h : SameQ P Q) {k : Nat} {q : Pt} (hq : Q[k]? = some q) : ∃ p, P[k]? = some p ∧ q.nd = p.nd ∧ q.mo = p.mo ∧ q.nv = p.nv ∧ q.wa = p.wa := by
  have h1 := congrArg (fun l => l[k]?) h
  simp only [List.getElem?_map, hq, Option.map_some] at h1
  cases e : P[k]? with
  | none => rw [e] at h1; cases h1
  | some p =>
    rw [e] at h1
    have h2 : coreB q = coreB p := Option.some.inj h1
    unfold coreB at h2
    injection h2 with a1 h2
    injection h2 with a2 h2
    injection h2 with a3 a4
    exact ⟨p, rfl, a1, a2, a3, a4⟩
theorem PartS.next {F : Fw} {t : Nat} {P P2 : List Pt} {v bv : Value} {p : Pt} (h : PartS F t P) (ht : t < P.length) (hs : SameQ (P.set t ⟨needF F t, mostF F t, v, bv, false⟩) P2) (hp : P2[t]? = some p) : PartS F (t + 1) (P2.set t ⟨p.nd, p.mo, p.nv, p.bv, true⟩) := fun k q hq => by
  rcases set_get hq with ⟨e, rfl⟩ | ⟨e, hq2⟩
  · subst e
    obtain ⟨p1, hp1, e1, e2, e3, e4⟩ := hs.get hp
    rw [List.getElem?_set_self ht] at hp1
    injection hp1 with hp1
    subst hp1
    exact ⟨fun _ => ⟨e1, e2, rfl⟩, fun c => by omega⟩
  · obtain ⟨p1, hp1, e1, e2, e3, e4⟩ := hs.get hq2
    rw [List.getElem?_set_ne e] at hp1
    obtain ⟨h1, h2⟩ := h k p1 hp1
    refine ⟨fun c => ?_, fun c => ?_⟩
    · obtain ⟨a, b, d⟩ := h1 (by omega)
      exact ⟨e1.trans a, e2.trans b, e4.trans d⟩
    · rw [e4]; exact h2 (by omega)
end Go.Proofs.YtcffpmicencfpabGreat
namespace Go.Proofs.YtcffpmicencfpabGreat
open Go.RowKit Go.Lib Go.Sort Go.Maps Ip Bl Lv Pm
set_option linter.unusedSimpArgs false
set_option linter.unusedVariables false

def nilS : Value := .slice none 0 0
/-- The boxes that lie below all else. -/
structure Fb (w : World) (i : Img) (u : Value) (W : World) : Prop where
  ib : W.heap[w.heap.size]? = some (.cells (imgC i u) 26 (0, 0))
  rb : W.heap[w.heap.size + 1]? = some (.cells #[.slice none 0 0, .slice none 0 0, .slice none 0 0, .slice none 0 0] 50 (0, 0))
  low : Below w.heap.size w W
theorem Fb.ext {w : World} {i : Img} {u : Value} {W W' : World} (h : Fb w i u W) (hb : Below (w.heap.size + 2) W W') : Fb w i u W' := ⟨(hb.block _ (by omega)).trans h.ib, (hb.block _ (by omega)).trans h.rb, h.low.trans (hb.mono (by omega))⟩
/-- What flowOf answers. -/
def FlowTo (w : World) (F : Fw) (n : Nat) (e : Ending) (W' : World) : Prop := ∃ (va vb vp vw : Value) (P : List Pt) (bf : Nat → List Nat) (gf : Nat), e = .returned (.agg #[va, vb, vp, vw]) ∧
  FM w w.heap.size gf va vb vp vw n (List.replicate n (BitVec.ofNat 32 0)) (baseF F n) P (List.range n) (nxT F n) bf W' ∧ Bf F n 0 bf ∧ PartS F n P
theorem flow_code (i : Img) (l : List (Nat × Nat)) {k : Nat} {b : Nat × Nat} (h : l[k]? = some b) : (flowI i l).code k = codeI i b ∧ (flowI i l).next k = (nextV i l (k : Int)).1 ∧ (flowI i l).loose k = looseX (insA i (lastA b)) (nextV i l (k : Int)).2 := by
  have e : blkAt l k = b := by unfold blkAt; rw [List.getD_eq_getElem?_getD, h]; rfl
  refine ⟨?_, rfl, ?_⟩
  · show codeI i (blkAt l k) = _; rw [e]
  · show looseX (insA i (lastA (blkAt l k))) _ = _; rw [e]
theorem whole_good {i : Img} {l : List (Nat × Nat)} (hi : i.ok) (hw : Whole i l) {k x y : Nat} (h : l[k]? = some (x, y)) : 1 ≤ y ∧ y ≤ 1000000 ∧ ∀ j, j < y → errA i ((x + 4 * j) % 4294967296) = 0 := by
  have hm := List.mem_of_getElem? h
  have h1 := hw.small _ hm
  have h2 := hi.2.2.1
  simp only at h1
  refine ⟨h1.1, by omega, fun j hj => ?_⟩
  rw [Nat.mod_eq_of_lt (by omega)]
  exact hw.good _ hm j hj
/-- A block's round: the flow, its instructions, and the row of those behind it. -/
structure Fx (w1 : World) (B0 gf : Nat) (va vb vp vw : Value) (n : Nat) (A B : List (BitVec 32)) (P : List Pt) (wt : List Nat) (nx bf : Nat → List Nat) (gx y cx : Nat) (xs : List Ins) (u2 : Value) (L : List Nat) (W : World) : Prop where
  fm : FM w1 B0 gf va vb vp vw n A B P wt nx bf W
  sl : SlN W (.slice (some ⟨gx, 0, none⟩) y cx) xs
  nr : W.ownsRow B0 3 1 u2 L.length (L.map numV8)
section
variable {w1 : World} {B0 gf n gx y cx : Nat} {va vb vp vw u2 : Value} {A B : List (BitVec 32)} {P : List Pt} {wt L : List Nat} {nx bf : Nat → List Nat} {xs : List Ins} {W W' : World}
theorem Fx.ext (h : Fx w1 B0 gf va vb vp vw n A B P wt nx bf gx y cx xs u2 L W) (hb : Below W.heap.size W W') : Fx w1 B0 gf va vb vp vw n A B P wt nx bf gx y cx xs u2 L W' := ⟨h.fm.ext hb, h.sl.below hb, kept_below h.nr hb⟩
theorem Fx.setB {g c : Nat} (h : Fx w1 B0 gf va (.slice (some ⟨g, 0, none⟩) n c) vp vw n A B P wt nx bf gx y cx xs u2 L W) (hne : gx ≠ g) (k : Nat) (z : BitVec 32) : Fx w1 B0 gf va (.slice (some ⟨g, 0, none⟩) n c) vp vw n A (B.set k z) P wt nx bf gx y cx xs u2 L (W.setCell ⟨g, k, none⟩ (.int .u32 (z.toNat : Int))) :=
  ⟨h.fm.setB k z, h.sl.put hne, h.nr.kept (h.fm.rb.stored k (.int .u32 (z.toNat : Int))).2 (rows_apart h.nr h.fm.rb (by decide))⟩
theorem Fx.laid {g c t : Nat} {p : Pt} (h : Fx w1 B0 gf va vb (.slice (some ⟨g, 0, none⟩) n c) vw n A B P wt nx bf gx y cx xs u2 L W) (hp : P[t]? = some p) (ha1 : Ap vw u2) (ha2 : ∀ (j : Nat) (r : Pt), P[j]? = some r → Ap u2 r.bv) (ND MO : BitVec 32) :
    FM w1 B0 gf va vb (.slice (some ⟨g, 0, none⟩) n c) vw n A B (P.set t ⟨ND, MO, u2, p.bv, p.wa⟩) wt (setN nx t L) bf (((W.setCell ⟨g, t * 5, none⟩ (.int .u32 (ND.toNat : Int))).setCell ⟨g, t * 5 + 1, none⟩ (.int .u32 (MO.toNat : Int))).setCell ⟨g, t * 5 + 2, none⟩ u2) := by
  have hlt : t < P.length := (List.getElem?_eq_some_iff.1 hp).1
  have s1 := h.fm.setP (j := 0) (q := ⟨ND, p.mo, p.nv, p.bv, p.wa⟩) (u := .int .u32 (ND.toNat : Int)) hp (by decide) rfl rfl rfl
  have n1 := h.nr.kept (h.fm.rp.stored (t * 5 + 0) (.int .u32 (ND.toNat : Int))).2 (rows_apart h.nr h.fm.rp (by decide))
  have hp1 : (P.set t ⟨ND, p.mo, p.nv, p.bv, p.wa⟩)[t]? = some ⟨ND, p.mo, p.nv, p.bv, p.wa⟩ := List.getElem?_set_self hlt
  have s2 := s1.setP (j := 1) (q := ⟨ND, MO, p.nv, p.bv, p.wa⟩) (u := .int .u32 (MO.toNat : Int)) hp1 (by decide) rfl rfl rfl
  have n2 := n1.kept (s1.rp.stored (t * 5 + 1) (.int .u32 (MO.toNat : Int))).2 (rows_apart n1 s1.rp (by decide))
  rw [List.set_set] at s2
  have hp2 : (P.set t ⟨ND, MO, p.nv, p.bv, p.wa⟩)[t]? = some ⟨ND, MO, p.nv, p.bv, p.wa⟩ := List.getElem?_set_self hlt
  have s3 := s2.setX hp2 n2 ha1 (fun j r hr => by
    rcases set_get hr with ⟨_, rfl⟩ | ⟨_, hr⟩
    · exact ha2 t p hp
    · exact ha2 j r hr)
  rw [List.set_set] at s3
  exact s3
end
set_option maxHeartbeats 8000000 in
set_option maxRecDepth 100000 in
theorem flowOf_any (i : Img) (v vl : Value) (l : List (Nat × Nat)) (hl : l.length ≤ 1000) (hi : i.ok) (hW : Whole i l) (hF : FitB l) (w : World) (hS : SlW w v i.words) (hB : SlB w vl l) :
    Calls Tryz.prog 14 #[imgV i v, vl] w fun e W' => FlowTo w (flowI i l) l.length e W' := by
  obtain ⟨i0, hii, hz0, hz1, hz2⟩ := info_parts infoI
  obtain ⟨p0, q0, rfl, _⟩ := hS.len
  obtain ⟨pb, qb, rfl⟩ := hB.len
  obtain ⟨F, hFd⟩ : ∃ F, flowI i l = F := ⟨_, rfl⟩
  obtain ⟨n, hn⟩ : ∃ n, l.length = n := ⟨_, rfl⟩
  have hFn : F.n = n := by rw [← hFd]; exact hn
  rw [hn] at hB hl
  rw [hn, hFd]
  obtain ⟨M, hmk, hM⟩ := makeU n hl
  obtain ⟨Mp, hmkp, hMp⟩ := makeP n hl
  have hst : Fb w i (.slice p0 i.words.length q0) ((w.alloc (.cells (imgC i (.slice p0 i.words.length q0)) 26)).alloc (.cells #[.slice none 0 0, .slice none 0 0, .slice none 0 0, .slice none 0 0] 50)) ∧ ((w.alloc (.cells (imgC i (.slice p0 i.words.length q0)) 26)).alloc (.cells #[.slice none 0 0, .slice none 0 0, .slice none 0 0, .slice none 0 0] 50)).heap.size = w.heap.size + 2 := by
    have h1 := heap_alloc_new w (.cells (imgC i (.slice p0 i.words.length q0)) 26)
    have h2 := heap_alloc_new (w.alloc (.cells (imgC i (.slice p0 i.words.length q0)) 26)) (.cells #[.slice none 0 0, .slice none 0 0, .slice none 0 0, .slice none 0 0] 50)
    rw [World.size_alloc] at h2
    exact ⟨⟨keptN ((Below.refl _ _).alloc (Nat.le_refl _) _) h1, h2, ((Below.refl _ w).alloc (Nat.le_refl _) _).alloc (by simp) _⟩, by simp⟩
  have HST := hideE hst
  have HS := hideE hS
  have HSL := hideE hB
  have HI := hideE hi
  have HW := hideE hW
  have HFit := hideE hF
  have HN := hideE hn
  have HFd := hideE hFd
  have HFn := hideE hFn
  have HM := hideE hM
  have HMp := hideE hMp
  clear hS hB hi hW hF hn hFd hFn hM hMp hst
  simp only [imgV]
  go_enter Tryz.func14, Tryz.ntmps14
  go_upto_region 1 with fail
  refine gen_world (fun W => Fb w i (.slice p0 i.words.length q0) W ∧ W.heap.size = w.heap.size + 2) HST.out ?_
  clear HST
  rintro w1 ⟨hfb, hsz⟩
  have HFB := hideE hfb
  clear hfb
  go_cut [5, 16, 19, 22] (fun s5 s16 s19 s22 W => ∃ gf ga gb gp, s5 = .pointer (some ⟨gf, 0, none⟩) ∧ s16 = .slice (some ⟨ga, 0, none⟩) n n ∧ s19 = .slice (some ⟨gb, 0, none⟩) n n ∧ s22 = .slice (some ⟨gp, 0, none⟩) n n ∧
    FM w1 (w.heap.size + 2) gf (.slice (some ⟨ga, 0, none⟩) n n) (.slice (some ⟨gb, 0, none⟩) n n) (.slice (some ⟨gp, 0, none⟩) n n) (.slice none 0 0) n (List.replicate n (BitVec.ofNat 32 0)) (List.replicate n (BitVec.ofNat 32 0)) (List.replicate n zP) [] (fun _ => []) (fun _ => []) W)
  case first =>
    go_region_with fail
    all_goals
      go_wp2_with fail
      go_meet
      case rel =>
        refine ⟨_, _, _, _, rfl, rfl, rfl, rfl, FM.init hl HM.out HMp.out ?_ ?_ ?_ ?_ ?_ ?_ ?_ ?_ ?_ ?_⟩
        all_goals first
          | exact at4_1 _ hsz _ _ _ _
          | exact at4_2 _ hsz _ _ _ _
          | exact at4_3 _ hsz _ _ _ _
          | exact at4_4 _ hsz _ _ _ _
          | exact low4 _ hsz _ _ _ _
          | omega
  case rest =>
    clear hmk hmkp hsz
    obtain ⟨gf, ga, gb, gp, rfl, rfl, rfl, rfl, h1⟩ := hcut
    go_upto_region 3 with fail
    go_loopg [26] n (fun q j W => ∃ (t : Nat) (P : List Pt) (vw : Value) (bf : Nat → List Nat), t + q = n ∧ j = .int .i64 (t : Int) ∧ FM w1 (w.heap.size + 2) gf (.slice (some ⟨ga, 0, none⟩) n n) (.slice (some ⟨gb, 0, none⟩) n n) (.slice (some ⟨gp, 0, none⟩) n n) vw n (List.replicate n (BitVec.ofNat 32 0)) (baseF F t) P (List.range t) (nxT F t) bf W ∧ Bf F t 0 bf ∧ PartS F t P)
    case atStart => exact ⟨0, _, _, _, by omega, rfl, by
      have e := base_zero F
      rw [HFn.out] at e
      rw [e, nxT_zero]
      exact h1, Bf.start F, PartS.start F n⟩
    case round =>
      clear h1
      obtain ⟨t, P, vw, bf, htq, rfl, h2, hbf, hps⟩ := hrel
      have HBf := hideE hbf
      have HPs := hideE hps
      have hfb := HFB.out.ext h2.low
      clear hbf hps
      cases gk with
      | zero =>
        obtain rfl : t = n := by omega
        have hk : ¬ ((t : Int) < (t : Int)) := by omega
        have hbx := h2.box
        have hrb := hfb.rb
        have hlw := hfb.low
        obtain ⟨pw, cw, e⟩ := h2.valW
        rw [List.length_range] at e
        subst e
        have H2 := hideE h2
        clear h2 hfb
        go_wp2_with (first
          | (refine wpList_load_row rfl 50 _ rfl gf rfl _ _ _ _ hbx Tryz.underlying50 rfl (by kernel_rfl) ?_)
          | (refine wpList_store_row rfl 50 _ _ rfl (w.heap.size + 1) _ rfl rfl _ _ hrb (by kernel_rfl) rfl (by kernel_rfl) ?_))
        refine bodyPost_ret (v := .agg #[.slice (some ⟨ga, 0, none⟩) t t, .slice (some ⟨gb, 0, none⟩) t t, .slice (some ⟨gp, 0, none⟩) t t, .slice pw t cw]) (results_cell_row (p := 4) (by kernel_rfl) _ _ (w.heap.size + 1) _ _ _ _ rfl (setRow_heap _ _ _ _ _ _ hrb) Tryz.underlying50 rfl (by kernel_rfl)) rfl ?_
        have hgr := grown_setRow wr (w.heap.size + 1) #[.slice (some ⟨ga, 0, none⟩) t t, .slice (some ⟨gb, 0, none⟩) t t, .slice (some ⟨gp, 0, none⟩) t t, .slice pw t cw]
        have hsz' := (Array.getElem?_eq_some_iff.1 hrb).1
        exact ⟨_, _, _, _, _, _, gf, rfl, H2.out.rebase hgr (by omega) (by omega) (hlw.grown hgr (by omega) (fun k e => by injection e; omega)), HBf.out, HPs.out⟩
      | succ q =>
        have hk : (t : Int) < (n : Int) := by omega
        have ht0 : (0 : Int) ≤ (t : Int) := by omega
        have hwt : IntKind.i64.wrap ((t : Int) + 1) = (t : Int) + 1 := wrE (by omega) (by omega)
        have htn : t < n := by omega
        obtain ⟨b, hb⟩ : ∃ b, l[t]? = some b := ⟨l[t]'(by rw [HN.out]; omega), List.getElem?_eq_getElem (by rw [HN.out]; omega)⟩
        obtain ⟨x, y⟩ := b
        obtain ⟨hy1, hy2, hgood⟩ := whole_good HI.out HW.out hb
        obtain ⟨fc, fn, fl⟩ := flow_code i l hb
        rw [HFd.out] at fc fn fl
        obtain ⟨g, rfl, e0, e1⟩ := (HSL.out.below hfb.low).at hb
        simp only at e0 e1
        have HLs := hideE (fun (W : World) (hW : Below w.heap.size w W) => llisted_any i (.slice p0 i.words.length q0) x y hy2 HI.out hgood W (HS.out.below hW))
        have HNx := hideE (fun (W : World) (hW : Below w.heap.size w W) => next_any i (.slice p0 i.words.length q0) (.slice (some ⟨g, 0, none⟩) n qb) l (t : Int) (by omega) (by omega) HFit.out HI.out W (HS.out.below hW) (HSL.out.below hW))
        have hn2 := next_two (i := i) (k := (t : Int)) HFit.out
        have hnin : ∀ j ∈ (nextV i l (t : Int)).1, j < n := fun j hj => by rw [← HN.out]; exact next_in j hj
        obtain ⟨L, hL⟩ : ∃ L, (nextV i l (t : Int)).1 = L := ⟨_, rfl⟩
        obtain ⟨aw, haw⟩ : ∃ aw, (nextV i l (t : Int)).2 = aw := ⟨_, rfl⟩
        rw [hL] at fn hn2 hnin HNx
        rw [haw] at fl HNx
        simp only [imgV] at HLs HNx
        have HFC := hideE fc
        have HFN := hideE fn
        have HFL := hideE fl
        have HNin := hideE hnin
        have hst := h2.ext ((Below.refl _ _).alloc (Nat.le_refl _) (.cells #[.int .u32 (x : Int), .int .i64 (y : Int)] 45))
        have HST := hideE (show FM w1 (w.heap.size + 2) gf (.slice (some ⟨ga, 0, none⟩) n n) (.slice (some ⟨gb, 0, none⟩) n n) (.slice (some ⟨gp, 0, none⟩) n n) vw n (List.replicate n (BitVec.ofNat 32 0)) (baseF F t) P (List.range t) (nxT F t) bf (wr.alloc (.cells #[.int .u32 (x : Int), .int .i64 (y : Int)] 45)) ∧ (wr.alloc (.cells #[.int .u32 (x : Int), .int .i64 (y : Int)] 45)).heap[wr.heap.size]? = some (.cells #[.int .u32 (x : Int), .int .i64 (y : Int)] 45 (0, 0)) from ⟨hst, heap_alloc_new wr _⟩)
        clear hb hgood fc fn fl hnin hL haw hst h2 hfb
        go_upto_region 5 with fail
        refine gen_world (fun W => FM w1 (w.heap.size + 2) gf (.slice (some ⟨ga, 0, none⟩) n n) (.slice (some ⟨gb, 0, none⟩) n n) (.slice (some ⟨gp, 0, none⟩) n n) vw n (List.replicate n (BitVec.ofNat 32 0)) (baseF F t) P (List.range t) (nxT F t) bf W ∧ W.heap[wr.heap.size]? = some (.cells #[.int .u32 (x : Int), .int .i64 (y : Int)] 45 (0, 0))) HST.out ?_
        clear HST e0 e1
        generalize wr.heap.size = gbx
        rintro W2 ⟨h3, hbx⟩
        have hfb := HFB.out.ext h3.low
        have hib := hfb.ib
        have hlw := hfb.low
        have H3 := hideE h3
        clear h3 hfb
        go_upto_region 6 with (first
          | (refine wpList_load_row rfl 26 _ rfl w.heap.size rfl _ _ _ _ hib Tryz.underlying26 rfl (by kernel_rfl) ?_)
          | (refine wpList_load_row rfl 45 _ rfl gbx rfl _ _ _ _ hbx Tryz.underlying45 rfl (by kernel_rfl) ?_)
          | (go_at_call 27; refine (HLs.out _ hlw).mono ?_; rintro e w3 ⟨u, rfl, hrx, hbb⟩; obtain ⟨px, cx, rfl⟩ := own_slice' hrx))
        obtain ⟨gx, rfl⟩ := own_some hrx (by omega)
        have hgx := (hrx.lt gx rfl).1
        have hne : gx ≠ gb ∧ gx ≠ gp := by
          have a1 := (H3.out.rb.lt gb rfl).2
          have a2 := (H3.out.rp.lt gp rfl).2
          exact ⟨by omega, by omega⟩
        have HNE := hideE hne
        have h4 := H3.out.ext hbb
        have hsl : SlN w3 (.slice (some ⟨gx, 0, none⟩) y cx) (codeI i (x, y)) := SlN.of_owns (l := codeI i (x, y)) (by rw [code_len]; exact hrx)
        refine gen_world (fun W => FM w1 (w.heap.size + 2) gf (.slice (some ⟨ga, 0, none⟩) n n) (.slice (some ⟨gb, 0, none⟩) n n) (.slice (some ⟨gp, 0, none⟩) n n) vw n (List.replicate n (BitVec.ofNat 32 0)) (baseF F t) P (List.range t) (nxT F t) bf W ∧ SlN W (.slice (some ⟨gx, 0, none⟩) y cx) (codeI i (x, y))) ⟨h4, hsl⟩ ?_
        clear hrx hbb hgx hne h4 hsl H3 HLs hib hlw hbx
        rintro W3 ⟨h3, hsl⟩
        have hfb := HFB.out.ext h3.low
        have hib := hfb.ib
        have hlw := hfb.low
        have H3 := hideE h3
        have HSl := hideE hsl
        clear h3 hfb hsl
        go_upto_region 7 with (first
          | (refine wpList_load_row rfl 26 _ rfl w.heap.size rfl _ _ _ _ hib Tryz.underlying26 rfl (by kernel_rfl) ?_)
          | (go_at_call 28; refine (HNx.out _ hlw).mono ?_; rintro e w4 ⟨u2, rfl, hrn, hbb⟩; obtain ⟨pn, cn, rfl⟩ := own_slice' hrn))
        have hap : ∀ (u : Value), (∀ k, u.ownBlock = some k → k < W3.heap.size) → Ap u (.slice pn L.length cn) := fun u hu k e1 e2 => by
          have a1 := hu k e1
          have a2 := (hrn.lt k e2).1
          omega
        have hap1 : Ap vw (.slice pn L.length cn) := hap vw (fun k e => (H3.out.rw.lt k e).2)
        have hap2 : ∀ (j : Nat) (r : Pt), P[j]? = some r → Ap (.slice pn L.length cn) r.bv := fun j r hj => (hap r.bv (H3.out.ltW hj).2).symm
        have HAp1 := hideE hap1
        have HAp2 := hideE hap2
        have hfx : Fx w1 (w.heap.size + 2) gf (.slice (some ⟨ga, 0, none⟩) n n) (.slice (some ⟨gb, 0, none⟩) n n) (.slice (some ⟨gp, 0, none⟩) n n) vw n (List.replicate n (BitVec.ofNat 32 0)) (baseF F t) P (List.range t) (nxT F t) bf gx y cx (codeI i (x, y)) (.slice pn L.length cn) L w4 :=
          ⟨H3.out.ext hbb, HSl.out.below hbb, own_lowN hrn (Nat.le_of_lt H3.out.size)⟩
        refine gen_world (Fx w1 (w.heap.size + 2) gf (.slice (some ⟨ga, 0, none⟩) n n) (.slice (some ⟨gb, 0, none⟩) n n) (.slice (some ⟨gp, 0, none⟩) n n) vw n (List.replicate n (BitVec.ofNat 32 0)) (baseF F t) P (List.range t) (nxT F t) bf gx y cx (codeI i (x, y)) (.slice pn L.length cn) L) hfx ?_
        clear hfx hap hap1 hap2 hrn hbb H3 HSl HNx hib hlw
        intro W4 h5
        have H5 := hideE h5
        clear h5
        obtain ⟨X, hX⟩ : ∃ X, insA i (lastA (x, y)) = X := ⟨_, rfl⟩
        obtain ⟨op, rd, rs1, rs2, imm⟩ := X
        obtain ⟨y1, rfl⟩ : ∃ y1, y = y1 + 1 := ⟨y - 1, by omega⟩
        have hcl := code_last i (x, y1 + 1) (by show 1 ≤ y1 + 1; omega)
        rw [hX] at hcl
        have hf5 := SlN.five (i := y1) H5.out.sl hcl
        simp only [Nat.zero_add] at hf5
        obtain ⟨c0, c1, c2, c3, c4⟩ := hf5
        obtain ⟨R, hR⟩ : ∃ R, F.loose t = R := ⟨_, rfl⟩
        have hR2 := HFL.out
        rw [hX, loose_leaves, hR] at hR2
        have HR := hideE hR
        have HR2 := hideE hR2
        have hwy : IntKind.i64.wrap (((y1 + 1 : Nat) : Int) - 1) = (y1 : Int) := by rw [wrE (by omega) (by omega)]; omega
        have hy0 : (0 : Int) ≤ (y1 : Int) := by omega
        have hyl : (y1 : Int) < ((y1 + 1 : Nat) : Int) := by omega
        obtain ⟨Y, hY⟩ : ∃ Y, y1 + 1 = Y := ⟨_, rfl⟩
        have HYY := hideE hY
        have HLv := hideE (fun W => leaves_at op rd rs1 rs2 imm W)
        clear hX hcl hR hR2
        rw [hY] at hwy hyl H5 HFC ⊢
        clear hY
        go_cut [50] (fun s50 W => s50 = .bool R ∧ Fx w1 (w.heap.size + 2) gf (.slice (some ⟨ga, 0, none⟩) n n) (.slice (some ⟨gb, 0, none⟩) n n) (.slice (some ⟨gp, 0, none⟩) n n) vw n (List.replicate n (BitVec.ofNat 32 0)) (baseF F t) P (List.range t) (nxT F t) bf gx Y cx (codeI i (x, Y)) (.slice pn L.length cn) L W)
        case first =>
          cases aw with
          | true =>
            go_wp2_with fail
            go_meet
            case rel => exact ⟨by rw [HR2.out]; rfl, H5.out⟩
          | false =>
            go_wp2_with (go_at_call 29; refine (HLv.out _).mono ?_; rintro e w7 ⟨rfl, hb7⟩)
            go_meet
            case rel => exact ⟨by rw [HR2.out]; rfl, H5.out.ext hb7⟩
        case rest =>
          clear H5 c0 c1 c2 c3 c4 HLv
          obtain ⟨rfl, h6⟩ := hcut
          obtain ⟨b0, b1, b2, b3, b4⟩ := h6.fm.cells
          obtain ⟨d0, d1⟩ := h6.fm.wordB htn
          have H6 := hideE h6
          clear h6
          go_upto_if 50 with fail
          go_cut [] (fun W => Fx w1 (w.heap.size + 2) gf (.slice (some ⟨ga, 0, none⟩) n n) (.slice (some ⟨gb, 0, none⟩) n n) (.slice (some ⟨gp, 0, none⟩) n n) vw n (List.replicate n (BitVec.ofNat 32 0)) (baseF F (t + 1)) P (List.range t) (nxT F t) bf gx Y cx (codeI i (x, Y)) (.slice pn L.length cn) L W)
          case first =>
            cases R with
            | true =>
              go_wp2_with fail
              go_meet
              case rel => rw [base_yes F (by rw [HFn.out]; exact htn) HR.out]; exact H6.out.setB HNE.out.1 t allB
            | false =>
              go_wp2_with fail
              go_meet
              case rel => rw [base_no F HR.out]; exact H6.out
          case rest =>
            clear H6 b0 b1 b2 b3 b4 d0 d1
            have h7 := hcut
            obtain ⟨b0, b1, b2, b3, b4⟩ := h7.fm.cells
            obtain ⟨p, hp⟩ : ∃ p, P[t]? = some p := ⟨P[t]'(by rw [h7.fm.lenP]; exact htn), List.getElem?_eq_getElem (by rw [h7.fm.lenP]; exact htn)⟩
            obtain ⟨ND, hND⟩ : ∃ N, needF F t = N := ⟨_, rfl⟩
            obtain ⟨MO, hMO⟩ : ∃ N, mostF F t = N := ⟨_, rfl⟩
            have hyl2 : (codeI i (x, Y)).length ≤ 1000000 := by rw [code_len]; show Y ≤ 1000000; have := HYY.out; omega
            have HBk0 : Hid (∀ W, SlN W (.slice (some ⟨gx, 0, none⟩) Y cx) (codeI i (x, Y)) → Calls Tryz.prog 18 #[.slice (some ⟨gx, 0, none⟩) Y cx, .int .u32 0] W fun e w' => e = .returned (.int .u32 (ND.toNat : Int)) ∧ Below W.heap.size W w') := hideE (fun W hW => by
              have h := lback_any (codeI i (x, Y)) (.slice (some ⟨gx, 0, none⟩) Y cx) (BitVec.ofNat 32 0) hyl2 W hW
              rw [← HFC.out, show backB (F.code t) (BitVec.ofNat 32 0) = ND from hND] at h
              exact h)
            have HBkA : Hid (∀ W, SlN W (.slice (some ⟨gx, 0, none⟩) Y cx) (codeI i (x, Y)) → Calls Tryz.prog 18 #[.slice (some ⟨gx, 0, none⟩) Y cx, .int .u32 4294967294] W fun e w' => e = .returned (.int .u32 (MO.toNat : Int)) ∧ Below W.heap.size W w') := hideE (fun W hW => by
              have h := lback_any (codeI i (x, Y)) (.slice (some ⟨gx, 0, none⟩) Y cx) allB hyl2 W hW
              rw [← HFC.out, show backB (F.code t) allB = MO from hMO] at h
              exact h)
            have hwa := (HPs.out t p hp).2 (Nat.le_refl t)
            have H7 := hideE h7
            have HP := hideE hp
            have HND := hideE hND
            have HMO := hideE hMO
            have HWa := hideE hwa
            have HPA := hideE (fun (W : World) (hW : Fx w1 (w.heap.size + 2) gf (.slice (some ⟨ga, 0, none⟩) n n) (.slice (some ⟨gb, 0, none⟩) n n) (.slice (some ⟨gp, 0, none⟩) n n) vw n (List.replicate n (BitVec.ofNat 32 0)) (baseF F (t + 1)) P (List.range t) (nxT F t) bf gx Y cx (codeI i (x, Y)) (.slice pn L.length cn) L W) => hW.fm.part hp)
            clear hcut h7 hp hND hMO hwa hyl2 b0 b1 b3 b4
            go_upto_region 11 with (first
              | (go_at_call 18; refine (HBk0.out _ H7.out.sl).mono ?_; clear HBk0; rintro e w8 ⟨rfl, hb8⟩; have H8 := hideE (H7.out.ext hb8); clear hb8)
              | (go_at_call 18; refine (HBkA.out _ H8.out.sl).mono ?_; clear HBkA; rintro e w9 ⟨rfl, hb9⟩; have H9 := hideE (H8.out.ext hb9); clear hb9; obtain ⟨q0, q1, q2, _, _, q5⟩ := HPA.out _ H9.out; have f0 := q5 (t * 5); have f1 := q5 (t * 5 + 1); have f2 := q5 (t * 5 + 2); clear q5))
            obtain ⟨P1, hP1⟩ : ∃ P1, P.set t ⟨ND, MO, .slice pn L.length cn, p.bv, false⟩ = P1 := ⟨_, rfl⟩
            have hst := H9.out.laid HP.out HAp1.out HAp2.out ND MO
            rw [HWa.out, hP1] at hst
            have enx := nxT_succ F t
            rw [HFN.out] at enx
            rw [enx] at hst
            refine gen_world (FM w1 (w.heap.size + 2) gf (.slice (some ⟨ga, 0, none⟩) n n) (.slice (some ⟨gb, 0, none⟩) n n) (.slice (some ⟨gp, 0, none⟩) n n) vw n (List.replicate n (BitVec.ofNat 32 0)) (baseF F (t + 1)) P1 (List.range t) (nxT F (t + 1)) bf) hst ?_
            have HP1 := hideE hP1
            have hp1 : P1[t]? = some ⟨ND, MO, .slice pn L.length cn, p.bv, false⟩ := by
              rw [← hP1, List.getElem?_set_self (by rw [H9.out.fm.lenP]; exact htn)]
            have HPt := hideE hp1
            clear hst enx hP1 hp1 H7 H8 H9 q0 q1 q2 f0 f1 f2 b2 HPA
            intro W5 h8
            have H8 := hideE h8
            clear h8
            go_upto_region 12 with fail
            go_loopg [75] L.length (fun q2 j W => ∃ (s : Nat) (P2 : List Pt) (bf2 : Nat → List Nat), s + q2 = L.length ∧ j = .int .i64 (s : Int) ∧ FM w1 (w.heap.size + 2) gf (.slice (some ⟨ga, 0, none⟩) n n) (.slice (some ⟨gb, 0, none⟩) n n) (.slice (some ⟨gp, 0, none⟩) n n) vw n (List.replicate n (BitVec.ofNat 32 0)) (baseF F (t + 1)) P2 (List.range t) (nxT F (t + 1)) bf2 W ∧ Bf F t s bf2 ∧ SameQ P1 P2)
            case atStart => exact ⟨0, P1, bf, by omega, rfl, H8.out, HBf.out, rfl⟩
            case round =>
              clear H8
              obtain ⟨s, P2, bf2, hsq, rfl, h9, hbf2, hsm⟩ := hrel
              obtain ⟨p2, hp2⟩ : ∃ p, P2[t]? = some p := ⟨P2[t]'(by rw [h9.lenP]; exact htn), List.getElem?_eq_getElem (by rw [h9.lenP]; exact htn)⟩
              obtain ⟨p1', hp1', e1, e2, e3, e4⟩ := hsm.get hp2
              rw [HPt.out] at hp1'
              injection hp1' with hp1'
              subst hp1'
              simp only at e1 e2 e3 e4
              have HSm := hideE hsm
              have HBf2 := hideE hbf2
              cases gk with
              | zero =>
                obtain rfl : s = L.length := by omega
                have hk' : ¬ ((L.length : Int) < (L.length : Int)) := by omega
                have HAw := hideE (await_any h9 hp2 hl (by rw [List.length_range]; omega))
                have HP2 := hideE hp2
                have HE4 := hideE e4
                have HLP := hideE h9.lenP
                clear hsm hbf2 h9 hp2 e1 e2 e3 e4
                go_wp2_with (go_at_call 30; refine HAw.out.mono ?_; rintro e w4 ⟨rfl, vw4, h4⟩; have H4 := hideE h4; clear h4)
                go_roundg q
                case measure => omega
                case rel =>
                  have hh := H4.out
                  rw [HE4.out, if_neg (by simp), ← List.range_succ] at hh
                  have hb := HBf2.out
                  rw [← HFN.out] at hb
                  have hs1 := HSm.out
                  rw [← HP1.out, ← HND.out, ← HMO.out] at hs1
                  have hPl : t < P.length := (List.getElem?_eq_some_iff.1 HP.out).1
                  exact ⟨t + 1, _, vw4, bf2, by omega, by simp, hh, hb.next (by rw [HFN.out]; exact hn2), HPs.out.next hPl hs1 HP2.out⟩
              | succ q2 =>
                have hk' : ((s : Int) < (L.length : Int)) := by omega
                have hs0 : (0 : Int) ≤ (s : Int) := by omega
                have hws : IntKind.i64.wrap ((s : Int) + 1) = (s : Int) + 1 := wrE (by omega) (by omega)
                obtain ⟨u, hu⟩ : ∃ u, L[s]? = some u := ⟨L[s]'(by omega), List.getElem?_eq_getElem (by omega)⟩
                have hun := HNin.out u (List.mem_of_getElem? hu)
                have hrn := h9.fs.rn t p2 hp2
                rw [e3] at hrn
                have enx : nxT F (t + 1) t = L := by unfold nxT; rw [if_pos (Nat.lt_succ_self t), HFN.out]
                rw [enx] at hrn
                obtain ⟨gn, rfl⟩ := own_some hrn (by omega)
                have d0 := num_at hrn hu
                obtain ⟨pu, hpu⟩ : ∃ p, P2[u]? = some p := ⟨P2[u]'(by rw [h9.lenP]; exact hun), List.getElem?_eq_getElem (by rw [h9.lenP]; exact hun)⟩
                have hrow := h9.fs.rf u pu hpu
                obtain ⟨pvu, cvu, ev⟩ := own_slice' hrow
                have hbl := hbf2.len u
                obtain ⟨_, _, _, q3, _, q5⟩ := h9.part hpu
                have f3 := q5 (u * 5 + 3)
                rw [ev] at q3 hrow
                obtain ⟨b0, b1, b2, b3, b4⟩ := h9.cells
                have hsz := h9.size
                have hu0 : (0 : Int) ≤ (u : Int) := by omega
                have hu1 : (u : Int) < (n : Int) := by omega
                have H9 := hideE h9
                have HPu := hideE hpu
                have HU := hideE hu
                have HEv := hideE ev
                clear h9 hbf2 hsm hp2 e1 e2 e3 e4 hrn enx hpu hu q5 b0 b1 b3 b4 ev
                go_upto_region 14 with fail
                have hnf : (some gf : Option Nat) ≠ (Value.slice pvu (bf2 u).length cvu).ownBlock := row_box hrow H9.out.box (by decide)
                have hnp : (some gp : Option Nat) ≠ (Value.slice pvu (bf2 u).length cvu).ownBlock := fun e => by
                  rcases rows_apart hrow H9.out.rp (by decide) with h0 | h0
                  · rw [h0] at e; cases e
                  · exact h0 e.symm
                have lgf : gf < wr.heap.size := (Array.getElem?_eq_some_iff.1 H9.out.box).1
                have lgp : gp < wr.heap.size := (H9.out.rp.lt gp rfl).2
                obtain ⟨mb, hmb⟩ : ∃ m, (bf2 u).length = m := ⟨_, rfl⟩
                rw [hmb] at q3 hrow hnf hnp hbl
                have HMb := hideE hmb
                have HNf := hideE hnf
                have HNp := hideE hnp
                have h63 : mb + 1 ≤ maxLen := by unfold maxLen; omega
                have hby : (mb + 1) * 8 ≤ 140737488355328 := by omega
                have HRw := hideE hrow
                have HAl : Hid (∀ o, ((wr.alloc o).drew.cell? ⟨gf, 2, none⟩ = some (.slice (some ⟨gp, 0, none⟩) n n) ∧ (wr.alloc o).drew.cell? ⟨gp, u * 5 + 3, none⟩ = some (.slice pvu mb cvu) ∧ (wr.alloc o).drew.frozen? ⟨gp, u * 5 + 3, none⟩ = false)) := hideE (fun o => by
                  have h := H9.out.ext (((Below.refl _ wr).alloc (Nat.le_refl _) o).drew)
                  obtain ⟨_, _, _, z3, _, z5⟩ := h.part HPu.out
                  rw [HEv.out, hmb] at z3
                  exact ⟨h.cells.2.2.1, z3, z5 _⟩)
                clear hmb hnf hnp hrow
                go_wp2_with fail
                go_region_law ((refine step_append_lies _ (by rfl) _ _ _ (by rfl) (w.heap.size + 2) 3 i0 _ 1 8 Tryz.underlying48 hii hz0 hz1 hz2 rfl (by omega) (.slice pvu mb cvu) mb ((bf2 u).map numV8) (by rfl) ((HRw.out.alloc _).drew) ⟨wr.heap.size, 0, none⟩ 1 1 [.int .i64 (t : Int)] (by rfl) (by rfl) (World.news_of_block (cs := #[.int .i64 (t : Int)]) (t := 3) (fr := (0, 0)) (heap_alloc_new wr _)) (by simp [Value.oneCell']) (by omega) h63 hby (by simp; omega) (wr.heap.size + 1) (by simp) ?_; intro gg cap w6 hown6 hgrow hat hlt6; have q7 := (hgrow.cell_far _ (by simp; omega) HNf.out).trans (HAl.out _).1; have q6 := (hgrow.cell_far _ (by simp; omega) HNp.out).trans (HAl.out _).2.1; have f6 := (hgrow.frozen_far _ (by simp; omega) HNp.out).trans (HAl.out _).2.2))
                all_goals
                  have hg2 : (wr.alloc (.cells #[.int .i64 (t : Int)] 3)).grownBy w6 pu.bv.ownBlock := by
                    rw [HEv.out, HMb.out]
                    exact ⟨hgrow.os, hgrow.tape, hgrow.output, hgrow.size, hgrow.block⟩
                  have hat2 : (Value.slice (some ⟨gg, 0, none⟩) (mb + 1) cap).ownBlock = pu.bv.ownBlock ∨ (Value.slice (some ⟨gg, 0, none⟩) (mb + 1) cap).ownBlock = some (wr.alloc (.cells #[.int .i64 (t : Int)] 3)).heap.size := by
                    rw [HEv.out, HMb.out, World.size_alloc]
                    rcases hat with h0 | h0
                    · exact .inl h0.symm
                    · exact .inr (by rw [h0]; rfl)
                  have hfm := (H9.out.pushF HPu.out (by rw [HMb.out]; exact hown6) hg2 hat2).1
                  have HFm := hideE hfm
                  clear hg2 hat2 hfm hown6 hgrow hat hlt6 q6 q7 f6
                  go_wp2_with fail
                  go_roundg q2
                  case measure => omega
                  case rel => exact ⟨s + 1, _, _, by omega, by simp, HFm.out, HBf2.out.step (by rw [HFN.out]; exact HU.out), HSm.out.trans (SameQ.put HPu.out _)⟩
end Go.Proofs.YtcffpmicencfpabGreat
