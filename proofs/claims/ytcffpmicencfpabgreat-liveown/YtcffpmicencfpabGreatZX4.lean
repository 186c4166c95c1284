/-
  Contracts of package live's worklist: await, take.
  Contract of package live's raise: a block is gone over.
  Contract of package live's settle: blocks are gone over till none waits.
-/
import Derived.Maps.AppendAt
import Derived.Deep.QuietTactic
import Derived.BigQuiet
import Derived.Deep.LoopGhost
import Derived.Test.YtcffpmicencfpabGreatZX1
import Derived.Test.YtcffpmicencfpabGreatZX2
namespace Go.Proofs.YtcffpmicencfpabGreat
open Go.RowKit Go.Lib Go.Sort Go.Maps Ip Bl Lv Pm
set_option linter.unusedSimpArgs false
set_option linter.unusedVariables false

variable {w0 : World} {B0 gf n : Nat} {va vb vp vw : Value} {A B : List (BitVec 32)} {P : List Pt} {wt : List Nat} {nx bf : Nat → List Nat} {w : World}
set_option maxHeartbeats 4000000 in
set_option maxRecDepth 100000 in
theorem await_any (h : FM w0 B0 gf va vb vp vw n A B P wt nx bf w) {k : Nat} {p : Pt} (hp : P[k]? = some p) (hn : n ≤ 1000) (hwt : wt.length ≤ 1000000) :
    Calls Tryz.prog 30 #[.pointer (some ⟨gf, 0, none⟩), .int .i64 (k : Int)] w fun e W' => e = .returned (.tuple #[]) ∧ ∃ vw', FM w0 B0 gf va vb vp vw' n A B (P.set k ⟨p.nd, p.mo, p.nv, p.bv, true⟩) (if p.wa = true then wt else wt ++ [k]) nx bf W' := by
  obtain ⟨i0, hi, hz0, hz1, hz2⟩ := info_parts infoI
  have hk := h.ltP hp
  obtain ⟨gp, cp, rfl⟩ := h.ptrP (by omega)
  have hkn : (k : Int) < (n : Int) := by omega
  have hk0 : (0 : Int) ≤ (k : Int) := by omega
  obtain ⟨b0, b1, b2, b3, b4⟩ := h.cells
  obtain ⟨p0, p1, p2, p3, p4, p5⟩ := h.part hp
  have p6 := p5 (k * 5 + 4)
  obtain ⟨pd, pm, pn, pb, pw⟩ := p
  simp only at p0 p1 p2 p3 p4
  have HP := hideE hp
  have H := hideE h
  have HPP := hideE (h.setP (j := 4) (q := ⟨pd, pm, pn, pb, true⟩) (u := .bool true) hp (by decide) rfl rfl rfl)
  clear p0 p1 p2 p3 p5 b0 b1 hp h
  cases pw with
  | true =>
    go_enter Tryz.func30, Tryz.ntmps30
    go_wp2_with fail
    go_end0
    exact ⟨rfl, vw, by rw [set_self HP.out]; exact H.out⟩
  | false =>
    go_enter Tryz.func30, Tryz.ntmps30
    go_upto_region 2 with fail
    refine gen_world (FM w0 B0 gf va vb (.slice (some ⟨gp, 0, none⟩) n cp) vw n A B (P.set k ⟨pd, pm, pn, pb, true⟩) wt nx bf) HPP.out ?_
    clear HPP H p4 p6 b2 b3 b4
    intro wa h1
    obtain ⟨b0, b1, b2, b3, b4⟩ := h1.cells
    have hrow := h1.rw
    have hsz := h1.size
    obtain ⟨pv, cv, rfl⟩ := h1.valW
    have H1 := hideE h1
    clear h1 b0 b1 b2 b4
    go_wp2_with (at_builtin; refine wpList_append_own_at _ rfl _ _ 48 rfl B0 3 i0 (.int .i64 0) 1 8 Tryz.underlying48 hi hz0 hz1 hz2 rfl (by decide) _ _ _ rfl (hrow.alloc _) ⟨_, 0, none⟩ 1 1 [.int .i64 (k : Int)] rfl rfl (cell_one_new _ _ _) (by simp [Value.oneCell']) (by unfold maxLen; omega) (by omega) (by simp; omega) ?_; intro v' w3 hown' hgrow _ hat; obtain ⟨pv', cv', rfl⟩ := own_slice' hown'; obtain ⟨d1, d2, d3⟩ := H1.out.pushW hown' hgrow hat; have D1 := hideE d1; clear d1)
    go_end0
    exact ⟨rfl, _, D1.out⟩
set_option maxHeartbeats 4000000 in
set_option maxRecDepth 100000 in
theorem take_none (h : FM w0 B0 gf va vb vp vw n A B P [] nx bf w) :
    Calls Tryz.prog 31 #[.pointer (some ⟨gf, 0, none⟩)] w fun e W' => e = .returned (.tuple #[.int .i64 0, .bool false]) ∧ W' = w := by
  obtain ⟨b0, b1, b2, b3, b4⟩ := h.cells
  obtain ⟨pv, cv, rfl⟩ := h.valW
  simp only [List.length_nil] at b3
  clear h b0 b1 b2 b4
  go_enter Tryz.func31, Tryz.ntmps31
  go_wp2_with fail
  go_ret2
  exact ⟨rfl, rfl⟩
theorem own_lessI {W : World} {B : Nat} {t : TypeId} {p : Option Addr} {c m : Nat} {x : Value} {xs : List Value} (h : W.ownsRow B t 1 (.slice p (m + 1) c) (m + 1) (xs ++ [x])) : W.ownsRow B t 1 (.slice p m c) m xs ∧ m + 1 ≤ c := by
  refine ⟨own_less h, ?_⟩
  rcases h.2 with ⟨e, _⟩ | ⟨g', cap, cur, e, h1, h2, h3, h4, h5, h6⟩
  · cases e
  · injection e with e1 e2 e3
    omega
theorem FM.popW {p : Option Addr} {c m k : Nat} (h : FM w0 B0 gf va vb vp (.slice p (m + 1) c) n A B P (wt ++ [k]) nx bf w) (hm : wt.length = m) : FM w0 B0 gf va vb vp (.slice p m c) n A B P wt nx bf (w.setCell ⟨gf, 3, none⟩ (.slice p m c)) := by
  have hr := h.rw
  rw [List.length_append, List.length_singleton, List.map_append, hm] at hr
  have h2 := (own_lessI hr).1
  have key : ∀ u : Value, Ap (.slice p (m + 1) c) u → Ap (.slice p m c) u := fun u hu => by cases p <;> exact hu
  have h3 : ∀ (k : Nat) (q : Pt), P[k]? = some q → Ap (.slice p m c) q.nv ∧ Ap (.slice p m c) q.bv := fun k q hq => ⟨key _ (h.wn k q hq).1, key _ (h.wn k q hq).2⟩
  rw [← hm] at h2 h3 ⊢
  exact h.setW h2 h3
set_option maxHeartbeats 4000000 in
set_option maxRecDepth 100000 in
theorem take_some {k : Nat} {p : Pt} (h : FM w0 B0 gf va vb vp vw n A B P (wt ++ [k]) nx bf w) (hp : P[k]? = some p) (hn : n ≤ 1000) (hwt : wt.length ≤ 1000000) :
    Calls Tryz.prog 31 #[.pointer (some ⟨gf, 0, none⟩)] w fun e W' => e = .returned (.tuple #[.int .i64 (k : Int), .bool true]) ∧ ∃ vw', FM w0 B0 gf va vb vp vw' n A B (P.set k ⟨p.nd, p.mo, p.nv, p.bv, false⟩) wt nx bf W' := by
  have hk := h.ltP hp
  obtain ⟨gp, cp, rfl⟩ := h.ptrP (by omega)
  have hkn : (k : Int) < (n : Int) := by omega
  have hk0 : (0 : Int) ≤ (k : Int) := by omega
  obtain ⟨pv, cv, rfl⟩ := h.valW
  obtain ⟨m, hm⟩ : ∃ m, wt.length = m := ⟨_, rfl⟩
  rw [List.length_append, List.length_singleton, hm] at h
  have hr := h.rw
  rw [List.length_append, List.length_singleton, List.map_append, hm] at hr
  have hc := (own_lessI hr).2
  obtain ⟨g, rfl⟩ := own_some hr (by omega)
  have c0 : w.cell? ⟨g, m, none⟩ = some (.int .i64 (k : Int)) := by
    rw [hr.cellAt m (by omega), List.getElem?_append_right (by simp; omega)]; simp [hm, numV8]
  have hm0 : (0 : Int) ≤ (m : Int) := by omega
  have hm1 : (m : Int) < ((m + 1 : Nat) : Int) := by omega
  have hm2 : (((m + 1 : Nat) : Int) == 0) = false := beq_eq_false_iff_ne.2 (by omega)
  have hm3 : ((m + 1 : Nat) : Int) - 1 = (m : Int) := by omega
  have hwm : IntKind.i64.wrap (((m + 1 : Nat) : Int) - 1) = (m : Int) := by rw [hm3]; exact wrE (by omega) (by omega)
  have hmc : (m : Int) ≤ (cv : Int) := by omega
  have hwm2 : IntKind.i64.wrap (m : Int) = (m : Int) := wrE (by omega) (by omega)
  obtain ⟨b0, b1, b2, b3, b4⟩ := h.cells
  obtain ⟨M, hM⟩ : ∃ M, m + 1 = M := ⟨_, rfl⟩
  rw [hM] at b3 hm1 hm2 hm3 hwm
  rw [hM] at h
  have HM := hideE hM
  have HMM := hideE hm
  have HP := hideE hp
  have H := hideE h
  clear hm hM hr hp h b0 b1
  go_enter Tryz.func31, Tryz.ntmps31
  go_wp2_with fail
  go_quiet (fail)
  go_wp2_with fail
  go_region
  all_goals
    refine gen_world (FM w0 B0 gf va vb (.slice (some ⟨gp, 0, none⟩) n cp) (.slice (some ⟨g, 0, none⟩) m cv) n A B P wt nx bf) (by
      have h := H.out.ext (drew_low w (nq + 1) w.heap.size)
      rw [← HM.out] at h
      exact h.popW HMM.out) ?_
    intro w1 h1
    obtain ⟨b0, b1, b2', b3', b4'⟩ := h1.cells
    obtain ⟨p0, p1, p2, p3, p4, p5⟩ := h1.part HP.out
    have p6 := p5 (k * 5 + 4)
    have HPP := hideE (h1.setP (j := 4) (q := ⟨p.nd, p.mo, p.nv, p.bv, false⟩) (u := .bool false) HP.out (by decide) rfl rfl rfl)
    clear h1 b0 b1 b2 b3 b4 b3' b4' p0 p1 p2 p3 p5 c0
    go_wp2_with fail
    go_ret2
    exact ⟨rfl, _, HPP.out⟩
end Go.Proofs.YtcffpmicencfpabGreat
namespace Go.Proofs.YtcffpmicencfpabGreat
open Go.RowKit Go.Lib Go.Sort Go.Maps Ip Bl Lv Pm
set_option linter.unusedSimpArgs false
set_option linter.unusedVariables false

variable {w0 : World} {B0 gf n gq : Nat} {va vb vp vw : Value} {A B : List (BitVec 32)} {P : List Pt} {wt : List Nat} {nx bf : Nat → List Nat} {w W W' : World} {p : Pt}
/-- While raise is at work: the flow, and a copy of the part. -/
structure Rse (w0 : World) (B0 gf : Nat) (va vb vp vw : Value) (n : Nat) (A B : List (BitVec 32)) (P : List Pt) (wt : List Nat) (nx bf : Nat → List Nat) (gq : Nat) (p : Pt) (W : World) : Prop where
  fm : FM w0 B0 gf va vb vp vw n A B P wt nx bf W
  qb : W.heap[gq]? = some (.cells (ptC p).toArray 67 (0, 0))
theorem Rse.setA {g c : Nat} (h : Rse w0 B0 gf (.slice (some ⟨g, 0, none⟩) n c) vb vp vw n A B P wt nx bf gq p W) (k : Nat) (z : BitVec 32) : Rse w0 B0 gf (.slice (some ⟨g, 0, none⟩) n c) vb vp vw n (A.set k z) B P wt nx bf gq p (W.setCell ⟨g, k, none⟩ (.int .u32 (z.toNat : Int))) :=
  ⟨h.fm.setA k z, (Below.heap_setCell _ _ _ _ (fun e => row_box h.fm.ra h.qb (by decide) (by rw [e]; rfl))).trans h.qb⟩
theorem Rse.setB {g c : Nat} (h : Rse w0 B0 gf va (.slice (some ⟨g, 0, none⟩) n c) vp vw n A B P wt nx bf gq p W) (k : Nat) (z : BitVec 32) : Rse w0 B0 gf va (.slice (some ⟨g, 0, none⟩) n c) vp vw n A (B.set k z) P wt nx bf gq p (W.setCell ⟨g, k, none⟩ (.int .u32 (z.toNat : Int))) :=
  ⟨h.fm.setB k z, (Below.heap_setCell _ _ _ _ (fun e => row_box h.fm.rb h.qb (by decide) (by rw [e]; rfl))).trans h.qb⟩
theorem Rse.ext (h : Rse w0 B0 gf va vb vp vw n A B P wt nx bf gq p W) (hb : Below W.heap.size W W') : Rse w0 B0 gf va vb vp vw n A B P wt nx bf gq p W' := ⟨h.fm.ext hb, keptN hb h.qb⟩
theorem Rse.copy (h : Rse w0 B0 gf va vb vp vw n A B P wt nx bf gq p W) : W.cell? ⟨gq, 0, none⟩ = some (.int .u32 (p.nd.toNat : Int)) ∧ W.cell? ⟨gq, 1, none⟩ = some (.int .u32 (p.mo.toNat : Int)) ∧ W.cell? ⟨gq, 2, none⟩ = some p.nv := by
  have e := h.qb
  unfold ptC at e
  exact ⟨by simp [World.cell?, e], by simp [World.cell?, e], by simp [World.cell?, e]⟩
theorem setD_self (B : List (BitVec 32)) (k : Nat) : B.set k (B.getD k (BitVec.ofNat 32 0)) = B := by
  refine list_getD_ext (by rw [List.length_set]) fun j => ?_
  rw [set_getD]
  split
  · rename_i e; rw [e.1]
  · rfl
theorem setD_at {B : List (BitVec 32)} {k : Nat} (hk : k < B.length) (z : BitVec 32) : (B.set k z).getD k (BitVec.ofNat 32 0) = z := by rw [set_getD, if_pos ⟨rfl, hk⟩]
set_option maxHeartbeats 8000000 in
set_option maxRecDepth 100000 in
theorem raise_any (h : FM w0 B0 gf va vb vp vw n A B P wt nx bf w) {k : Nat} (hp : P[k]? = some p) (hn : n ≤ 1000) (hN : ∀ j ∈ nx k, j < n) (hNl : (nx k).length ≤ 1000) :
    Calls Tryz.prog 32 #[.pointer (some ⟨gf, 0, none⟩), .int .i64 (k : Int)] w fun e W' =>
      e = .returned (.bool (decide (p.nd ||| (p.mo &&& gatB A (B.getD k (BitVec.ofNat 32 0)) (nx k)) ≠ A.getD k (BitVec.ofNat 32 0)))) ∧
      FM w0 B0 gf va vb vp vw n (A.set k (p.nd ||| (p.mo &&& gatB A (B.getD k (BitVec.ofNat 32 0)) (nx k)))) (B.set k (gatB A (B.getD k (BitVec.ofNat 32 0)) (nx k))) P wt nx bf W' := by
  have hk := h.ltP hp
  obtain ⟨gp, cp, rfl⟩ := h.ptrP (by omega)
  obtain ⟨ga, ca, rfl⟩ := h.ptrA (by omega)
  obtain ⟨gb, cb, rfl⟩ := h.ptrB (by omega)
  have hkn : (k : Int) < (n : Int) := by omega
  have hk0 : (0 : Int) ≤ (k : Int) := by omega
  obtain ⟨b0, b1, b2, b3, b4⟩ := h.cells
  obtain ⟨p0, p1, p2, p3, p4, _⟩ := h.part hp
  have hrn := h.fs.rn k p hp
  have hrf := h.fs.rf k p hp
  obtain ⟨mb, hmb⟩ : ∃ m, (bf k).length = m := ⟨_, rfl⟩
  rw [hmb] at hrf
  obtain ⟨N, hNN⟩ : ∃ N, nx k = N := ⟨_, rfl⟩
  rw [hNN] at hrn hN hNl ⊢
  obtain ⟨m, hm⟩ : ∃ m, N.length = m := ⟨_, rfl⟩
  rw [hm] at hrn hNl
  obtain ⟨x, hx⟩ : ∃ x, B.getD k (BitVec.ofNat 32 0) = x := ⟨_, rfl⟩
  rw [hx]
  obtain ⟨pd, pm, nv, bv, pw⟩ := p
  obtain ⟨pn, cn, e⟩ := own_slice' hrn
  obtain ⟨pv, cv, e'⟩ := own_slice' hrf
  simp only at e e' p0 p1 p2 p3 p4 hrn ⊢
  subst e e'
  have hst : Rse w0 B0 gf (.slice (some ⟨ga, 0, none⟩) n ca) (.slice (some ⟨gb, 0, none⟩) n cb) (.slice (some ⟨gp, 0, none⟩) n cp) vw n A B P wt nx bf w.heap.size ⟨pd, pm, .slice pn m cn, .slice pv mb cv, pw⟩ (w.alloc (.cells #[.int .u32 (pd.toNat : Int), .int .u32 (pm.toNat : Int), .slice pn m cn, .slice pv mb cv, .bool pw] 67)) :=
    ⟨h.ext ((Below.refl _ w).alloc (Nat.le_refl _) _), heap_alloc_new w _⟩
  obtain ⟨Z, hZ⟩ : ∃ Z, gatB A x N = Z := ⟨_, rfl⟩
  obtain ⟨a, ha⟩ : ∃ a, A.getD k (BitVec.ofNat 32 0) = a := ⟨_, rfl⟩
  obtain ⟨X, hX⟩ : ∃ X, pm &&& Z = X := ⟨_, rfl⟩
  obtain ⟨Y, hY⟩ : ∃ Y, pd ||| X = Y := ⟨_, rfl⟩
  rw [hZ, ha, hX, hY]
  have e1 : Hid (bits .and .u32 (pm.toNat : Int) (Z.toNat : Int) = (X.toNat : Int)) := by show _ = _; rw [← hX]; exact Wd.and_ pm Z
  have e2 : Hid (bits .or .u32 (pd.toNat : Int) (X.toNat : Int) = (Y.toNat : Int)) := by show _ = _; rw [← hY]; exact Wd.or_ pd X
  have HZ := hideE hZ
  have HA := hideE ha
  have HST := hideE hst
  have HN := hideE hN
  have HM := hideE hm
  have HX := hideE hx
  have HP := hideE hp
  have HNN := hideE hNN
  have hlB := h.lenB
  have hlA := h.lenA
  have HLB := hideE hlB
  have HLA := hideE hlA
  clear hZ ha hX hY h hst hN hm hx hp hNN hrn hrf hmb b0 b1 b3 b4 hlA hlB
  go_enter Tryz.func32, Tryz.ntmps32
  go_upto_region 2 with fail
  refine gen_world (Rse w0 B0 gf (.slice (some ⟨ga, 0, none⟩) n ca) (.slice (some ⟨gb, 0, none⟩) n cb) (.slice (some ⟨gp, 0, none⟩) n cp) vw n A B P wt nx bf w.heap.size ⟨pd, pm, .slice pn m cn, .slice pv mb cv, pw⟩) HST.out ?_
  clear HST p0 p1 p2 p3 p4 b2
  generalize w.heap.size = gq
  intro w1 h1
  obtain ⟨q0, q1, q2⟩ := h1.copy
  simp only at q0 q1 q2
  have H1 := hideE h1
  clear h1
  go_upto_region 3 with fail
  go_loopg [19] m (fun q j W => ∃ t : Nat, t + q = m ∧ j = .int .i64 (t : Int) ∧ Rse w0 B0 gf (.slice (some ⟨ga, 0, none⟩) n ca) (.slice (some ⟨gb, 0, none⟩) n cb) (.slice (some ⟨gp, 0, none⟩) n cp) vw n A (B.set k (gatB A x (N.take t))) P wt nx bf gq ⟨pd, pm, .slice pn m cn, .slice pv mb cv, pw⟩ W)
  case atStart => exact ⟨0, by omega, rfl, by
    have e : gatB A x (N.take 0) = x := rfl
    have := H1.out
    rwa [e, ← HX.out, setD_self]⟩
  case round =>
    clear q0 q1 q2 H1
    obtain ⟨t, htq, rfl, h2⟩ := hrel
    obtain ⟨b0, b1, b2, b3, b4⟩ := h2.fm.cells
    obtain ⟨q0, q1, q2⟩ := h2.copy
    simp only at q0 q1 q2
    have hlB2 : (B.set k (gatB A x (N.take t))).getD k (BitVec.ofNat 32 0) = gatB A x (N.take t) := setD_at (by rw [HLB.out]; exact hk) _
    obtain ⟨c0, c1⟩ := h2.fm.wordB hk
    rw [hlB2] at c0
    cases gk with
    | zero =>
      obtain rfl : t = m := by omega
      have hk' : ¬ ((t : Int) < (t : Int)) := by omega
      have hend : N.take t = N := List.take_of_length_le (by rw [HM.out]; exact Nat.le_refl _)
      rw [hend, HZ.out] at h2 c0
      obtain ⟨d0, d1⟩ := h2.fm.wordA hk
      rw [HA.out] at d0
      have e1' := e1.out
      have e2' := e2.out
      have H2 := hideE h2
      clear h2 hend hlB2 b2 b3 b4 e1 e2
      go_upto_region 8 with fail
      go_wp2_with fail
      go_region
      refine gen_world (Rse w0 B0 gf (.slice (some ⟨ga, 0, none⟩) n ca) (.slice (some ⟨gb, 0, none⟩) n cb) (.slice (some ⟨gp, 0, none⟩) n cp) vw n (A.set k Y) (B.set k Z) P wt nx bf gq ⟨pd, pm, .slice pn t cn, .slice pv mb cv, pw⟩) ((H2.out.setA k Y).ext (Below.refl _ _).drew) ?_
      clear b0 b1 q0 q1 q2 c0 c1 d0 d1 e1' e2' H2
      intro w5 h5
      obtain ⟨b0, b1, b2, b3, b4⟩ := h5.fm.cells
      obtain ⟨d0, d1⟩ := h5.fm.wordA hk
      rw [setD_at (by rw [HLA.out]; exact hk)] at d0
      obtain ⟨bb, hbb⟩ : ∃ bb, ((Y.toNat : Int) != (a.toNat : Int)) = bb := ⟨_, rfl⟩
      have HBB : Hid (decide (Y ≠ a) = bb) := by
        show _ = _
        rw [← hbb]
        by_cases e : Y = a
        · subst e; simp
        · rw [decide_eq_true e]
          exact (bne_iff_ne.2 (fun c => e (BitVec.eq_of_toNat_eq (by omega)))).symm
      have H5 := hideE h5
      clear h5 b1 b2 b3 b4 d1
      go_wp2_with fail
      go_ret
      exact ⟨by rw [HBB.out]; rfl, H5.out.fm⟩
    | succ q =>
      have hk' : ((t : Int) < (m : Int)) := by omega
      have ht0 : (0 : Int) ≤ (t : Int) := by omega
      have hwt : IntKind.i64.wrap ((t : Int) + 1) = (t : Int) + 1 := wrE (by omega) (by omega)
      obtain ⟨u, hu⟩ : ∃ u, N[t]? = some u := ⟨N[t]'(by rw [HM.out]; omega), List.getElem?_eq_getElem (by rw [HM.out]; omega)⟩
      have hun := HN.out u (List.mem_of_getElem? hu)
      have hrn := h2.fm.fs.rn k _ HP.out
      simp only [HNN.out, HM.out] at hrn
      obtain ⟨gn, rfl⟩ := own_some hrn (by omega)
      have e0 := num_at hrn hu
      obtain ⟨d0, d1⟩ := h2.fm.wordA hun
      have hu0 : (0 : Int) ≤ (u : Int) := by omega
      have hu1 : (u : Int) < (n : Int) := by omega
      have hgs := gat_succ A x N hu
      obtain ⟨Z, hZ⟩ : ∃ Z, gatB A x (N.take t) = Z := ⟨_, rfl⟩
      obtain ⟨a, ha⟩ : ∃ a, A.getD u (BitVec.ofNat 32 0) = a := ⟨_, rfl⟩
      obtain ⟨Y, hY⟩ : ∃ Y, Z ||| a = Y := ⟨_, rfl⟩
      have e2 : bits .or .u32 (Z.toNat : Int) (a.toNat : Int) = (Y.toNat : Int) := by rw [← hY]; exact Wd.or_ Z a
      rw [hZ, ha, hY] at hgs
      rw [hZ] at c0
      rw [ha] at d0
      have HGS := hideE hgs
      have H2 := hideE h2
      clear h2 hrn hu hun hlB2 hZ ha hY hgs b2 b3 b4 d1
      go_upto_region 5 with fail
      go_wp2_with fail
      go_region
      refine gen_world (Rse w0 B0 gf (.slice (some ⟨ga, 0, none⟩) n ca) (.slice (some ⟨gb, 0, none⟩) n cb) (.slice (some ⟨gp, 0, none⟩) n cp) vw n A (B.set k (gatB A x (N.take (t + 1)))) P wt nx bf gq ⟨pd, pm, .slice (some ⟨gn, 0, none⟩) m cn, .slice pv mb cv, pw⟩) (by
        have h := (H2.out.setB k Y).ext (Below.refl _ _).drew
        rw [List.set_set] at h
        rw [HGS.out]
        exact h) ?_
      clear b0 b1 q0 q1 q2 c0 c1 d0 e0 e2 H2
      intro w5 h5
      have H5 := hideE h5
      clear h5
      go_wp2_with fail
      go_roundg q
      case measure => omega
      case rel => exact ⟨t + 1, by omega, by simp, H5.out⟩
end Go.Proofs.YtcffpmicencfpabGreat
namespace Go.Proofs.YtcffpmicencfpabGreat
open Go.RowKit Go.Lib Go.Sort Go.Maps Ip Bl Lv Pm
set_option linter.unusedSimpArgs false
set_option linter.unusedVariables false

def core (p : Pt) : BitVec 32 × BitVec 32 × Value × Value := (p.nd, p.mo, p.nv, p.bv)
def waL (P : List Pt) : List Bool := P.map Pt.wa
/-- Parts that differ, if at all, in who waits. -/
def SameP (P P' : List Pt) : Prop := P'.map core = P.map core
theorem SameP.refl (P : List Pt) : SameP P P := rfl
theorem SameP.trans {P Q R : List Pt} (h : SameP P Q) (k : SameP Q R) : SameP P R := Eq.trans k h
theorem SameP.put {P : List Pt} {k : Nat} {p : Pt} (h : P[k]? = some p) (b : Bool) : SameP P (P.set k ⟨p.nd, p.mo, p.nv, p.bv, b⟩) := by
  unfold SameP
  rw [List.map_set]
  apply List.ext_getElem?
  intro j
  rw [List.getElem?_set, List.length_map]
  by_cases e : k = j
  · subst e
    rw [if_pos rfl, if_pos (List.getElem?_eq_some_iff.1 h).1, List.getElem?_map, h]; rfl
  · rw [if_neg e]
theorem SameP.get {P Q : List Pt} (h : SameP P Q) {k : Nat} {p : Pt} (hp : P[k]? = some p) : ∃ q, Q[k]? = some q ∧ q.nd = p.nd ∧ q.mo = p.mo ∧ q.nv = p.nv ∧ q.bv = p.bv := by
  have h1 := congrArg (fun l => l[k]?) h
  simp only [List.getElem?_map, hp, Option.map_some] at h1
  cases e : Q[k]? with
  | none => rw [e] at h1; cases h1
  | some q =>
    rw [e] at h1
    have h2 : core q = core p := Option.some.inj h1
    unfold core at h2
    injection h2 with a1 h2
    injection h2 with a2 h2
    injection h2 with a3 a4
    exact ⟨q, rfl, a1, a2, a3, a4⟩
def PtOk (F : Fw) (P : List Pt) : Prop := ∀ (k : Nat) (p : Pt), P[k]? = some p → p.nd = needF F k ∧ p.mo = mostF F k
theorem SameP.symm {P Q : List Pt} (h : SameP P Q) : SameP Q P := Eq.symm h
theorem PtOk.same {F : Fw} {P Q : List Pt} (h : PtOk F P) (hs : SameP P Q) : PtOk F Q := fun k q hq => by
  obtain ⟨p, hp, e1, e2, _⟩ := hs.symm.get hq
  rw [← e1, ← e2]; exact h k p hp
theorem wa_get {P : List Pt} {k : Nat} {p : Pt} (h : P[k]? = some p) : (waL P).getD k false = p.wa := by
  unfold waL; rw [List.getD_eq_getElem?_getD, List.getElem?_map, h]; rfl
theorem wa_set (P : List Pt) (k : Nat) (p : Pt) : waL (P.set k p) = (waL P).set k p.wa := by unfold waL; rw [List.map_set]
/-- While those ahead of a block are put among those that wait: t of them are. -/
structure Aw (n : Nat) (P1 : List Pt) (ws1 : List Bool) (L : List Nat) (t : Nat) (P : List Pt) (wt : List Nat) : Prop where
  wq : Wq n (waL P) wt
  same : SameP P1 P
  mem : ∀ j, (waL P).getD j false = true ↔ ws1.getD j false = true ∨ j ∈ L.take t
theorem Aw.start {n : Nat} {P1 : List Pt} {wt : List Nat} (L : List Nat) (h : Wq n (waL P1) wt) : Aw n P1 (waL P1) L 0 P1 wt := ⟨h, SameP.refl _, fun j => by simp⟩
theorem Aw.step {n : Nat} {P1 P : List Pt} {ws1 : List Bool} {L wt : List Nat} {t j : Nat} {p : Pt} (h : Aw n P1 ws1 L t P wt) (hj : L[t]? = some j) (hp : P[j]? = some p) (hn : j < n) :
    Aw n P1 ws1 L (t + 1) (P.set j ⟨p.nd, p.mo, p.nv, p.bv, true⟩) (if p.wa = true then wt else wt ++ [j]) := by
  have hl := h.wq.len
  refine ⟨?_, h.same.trans (SameP.put hp true), fun i => ?_⟩
  · by_cases e : p.wa = true
    · rw [if_pos e, wa_set]
      have h1 := h.wq
      refine ⟨by rw [List.length_set]; exact h1.len, fun i => ?_, h1.once⟩
      rw [h1.mem i, setB_getD]
      by_cases e2 : j = i
      · subst e2
        rw [if_pos ⟨rfl, by rw [hl]; exact hn⟩, wa_get hp, e]
      · rw [if_neg (fun c => e2 c.1)]
    · rw [if_neg e, wa_set]
      exact h.wq.push hn (by rw [wa_get hp]; simpa using e)
  · rw [wa_set, setB_getD, List.take_add_one, hj, Option.toList_some, List.mem_append, List.mem_singleton]
    have hm := h.mem i
    by_cases e2 : j = i
    · subst e2
      rw [if_pos ⟨rfl, by rw [hl]; exact hn⟩]
      exact ⟨fun _ => .inr (.inr rfl), fun _ => rfl⟩
    · rw [if_neg (fun c => e2 c.1), hm]
      constructor
      · rintro (h1 | h1)
        · exact .inl h1
        · exact .inr (.inl h1)
      · rintro (h1 | h1 | h1)
        · exact .inl h1
        · exact .inr h1
        · exact absurd h1.symm e2
/-- What settle holds between two rounds. -/
structure St (F : Fw) (w0 : World) (B0 gf : Nat) (va vb vp : Value) (n : Nat) (nx bf : Nat → List Nat) (q : Nat) (A B : List (BitVec 32)) (P : List Pt) (wt : List Nat) (vw : Value) (W : World) : Prop where
  fm : FM w0 B0 gf va vb vp vw n A B P wt nx bf W
  fl : Fl F A B (waL P) wt
  pt : PtOk F P
  left : leftF F A wt.length = q
/-- What the blocks are. -/
structure NxOk (F : Fw) (n : Nat) (nx bf : Nat → List Nat) : Prop where
  n_ : F.n = n
  small : n ≤ 1000
  nx_ : ∀ k, k < n → nx k = F.next k
  in_ : ∀ k, k < n → ∀ j ∈ F.next k, j < n
  two : ∀ k, k < n → (F.next k).length ≤ 2
  bf_ : ∀ m j, j ∈ bf m ↔ j < n ∧ m ∈ F.next j
  len : ∀ m, (bf m).length ≤ 1000000
set_option maxHeartbeats 8000000 in
set_option maxRecDepth 100000 in
theorem settle_any {F : Fw} {w0 : World} {B0 gf n : Nat} {va vb vp vw : Value} {A B : List (BitVec 32)} {P : List Pt} {wt : List Nat} {nx bf : Nat → List Nat} {w : World}
    (hN : NxOk F n nx bf) {q0 : Nat} (h : St F w0 B0 gf va vb vp n nx bf q0 A B P wt vw w) :
    Calls Tryz.prog 15 #[.pointer (some ⟨gf, 0, none⟩)] w fun e W' => e = .returned (.tuple #[]) ∧ ∃ (vw' : Value) (A' B' : List (BitVec 32)) (P' : List Pt), LeastF F A' ∧ B' = behL F A' ∧ FM w0 B0 gf va vb vp vw' n A' B' P' [] nx bf W' := by
  have HN := hideE hN
  have HH := hideE h
  clear hN h
  go_enter Tryz.func15, Tryz.ntmps15
  go_wp2
  go_step3
  go_wp2
  go_step3
  go_wp2
  go_loopg [] q0 (fun q W => ∃ A B P wt vw, St F w0 B0 gf va vb vp n nx bf q A B P wt vw W)
  case atStart => exact ⟨_, _, _, _, _, HH.out⟩
  case round =>
    clear HH
    obtain ⟨A, B, P, wt, vw, h⟩ := hrel
    have hn := HN.out.small
    rcases List.eq_nil_or_concat wt with rfl | ⟨wt', k, hcc⟩
    · have HT := hideE (take_none h.fm)
      have HE := hideE h.fl.end_
      have HF := hideE h.fm
      clear h
      go_wp2_with (go_at_call 31; refine HT.out.mono ?_; rintro e w1 ⟨rfl, rfl⟩)
      rw [Exit.noGoto_normal]
      go_end0
      exact ⟨rfl, vw, A, B, P, HE.out.1, HE.out.2, HF.out⟩
    · rw [List.concat_eq_append] at hcc
      subst hcc
      have hkF := h.fl.wq.lt
      have hk : k < n := by rw [← HN.out.n_]; exact hkF
      have hfew := h.fl.wq.few
      rw [List.length_append, List.length_singleton, HN.out.n_] at hfew
      obtain ⟨p, hp⟩ : ∃ p, P[k]? = some p := ⟨P[k]'(by rw [h.fm.lenP]; exact hk), List.getElem?_eq_getElem (by rw [h.fm.lenP]; exact hk)⟩
      have hrf := h.fm.fs.rf k p hp
      obtain ⟨m, hm⟩ : ∃ m, (bf k).length = m := ⟨_, rfl⟩
      rw [hm] at hrf
      obtain ⟨pd, pm, nv, bv, pw⟩ := p
      obtain ⟨pv, cv, e⟩ := own_slice' hrf
      simp only at e hrf
      subst e
      have hml : m ≤ 1000000 := by rw [← hm]; exact HN.out.len k
      have HT := hideE (take_some h.fm hp hn (by omega))
      simp only at HT
      have hpk := h.pt k _ hp
      simp only at hpk
      obtain ⟨P1, hP1⟩ : ∃ P1, P.set k ⟨pd, pm, nv, .slice pv m cv, false⟩ = P1 := ⟨_, rfl⟩
      have hs1 : SameP P P1 := by rw [← hP1]; exact SameP.put (p := ⟨pd, pm, nv, .slice pv m cv, pw⟩) hp false
      have hp1 : P1[k]? = some ⟨pd, pm, nv, .slice pv m cv, false⟩ := by
        rw [← hP1, List.getElem?_set_self (by rw [h.fm.lenP]; exact hk)]
      have hw1 : waL P1 = (waL P).set k false := by rw [← hP1, wa_set]
      have hgt := h.fl.gather hkF
      have hsp := ahd_split F A k
      rw [← hpk.1, ← hpk.2] at hsp
      have hnk := HN.out.nx_ k hk
      have HR := hideE (fun (vw1 : Value) (W : World) (hW : FM w0 B0 gf va vb vp vw1 n A B P1 wt' nx bf W) => raise_any hW hp1 hn (by rw [hnk]; exact HN.out.in_ k hk) (by rw [hnk]; have := HN.out.two k hk; omega))
      simp only [hnk, hgt, ← hsp] at HR
      rw [hP1] at HT
      have HFL := hideE h.fl
      have HPT := hideE (h.pt.same hs1)
      have HLF := hideE h.left
      have HP1 := hideE hp1
      have HW1 := hideE hw1
      have HM := hideE hm
      clear h hp hrf hpk hs1 hp1 hw1 hgt hsp hnk hm hP1
      go_upto_region 2 with (go_at_call 31; refine HT.out.mono ?_; rintro e w1 ⟨rfl, vw1, h1⟩)
      have HR1 := hideE (HR.out vw1 w1 h1)
      clear HT HR h1
      obtain ⟨Y, hY⟩ : ∃ Y, ahdF F A k = Y := ⟨_, rfl⟩
      obtain ⟨Z, hZ⟩ : ∃ Z, behF F A k = Z := ⟨_, rfl⟩
      rw [hY, hZ] at HR1
      by_cases hc : Y = A.getD k (BitVec.ofNat 32 0)
      · have hd : decide (Y ≠ A.getD k (BitVec.ofNat 32 0)) = false := decide_eq_false (fun c => c hc)
        rw [hd] at HR1
        have HSt := hideE (HFL.out.still (k := k) (by rw [hY, hc]))
        rw [hZ, ← HW1.out] at HSt
        have HC := hideE hc
        clear hd hc hY hZ
        go_wp2_with (go_at_call 32; refine HR1.out.mono ?_; rintro e w2 ⟨rfl, h2⟩)
        go_roundg (leftF F A wt'.length)
        case measure =>
          have := HLF.out
          rw [List.length_append, List.length_singleton] at this
          unfold leftF at this ⊢
          omega
        case rel =>
          rw [HC.out, setD_self] at h2
          exact ⟨A, B.set k Z, P1, wt', vw1, ⟨h2, HSt.out, HPT.out, rfl⟩⟩
      · have hd : decide (Y ≠ A.getD k (BitVec.ofNat 32 0)) = true := decide_eq_true hc
        rw [hd] at HR1
        have HGr := hideE (HFL.out.grows (k := k) (by rw [hY]; exact fun c => hc c.symm))
        rw [hY] at HGr
        have HY := hideE hY
        have HZ := hideE hZ
        have hk0 : (0 : Int) ≤ (k : Int) := by omega
        have hkn : (k : Int) < (n : Int) := by omega
        clear hd hc hY hZ
        have hfacts : ∀ W, FM w0 B0 gf va vb vp vw1 n (A.set k Y) (B.set k Z) P1 wt' nx bf W → ∃ gp cp, vp = .slice (some ⟨gp, 0, none⟩) n cp ∧ W.cell? ⟨gf, 2, none⟩ = some (.slice (some ⟨gp, 0, none⟩) n cp) ∧ W.cell? ⟨gp, k * 5 + 3, none⟩ = some (.slice pv m cv) := fun W hW => by
          obtain ⟨gp, cp, rfl⟩ := hW.ptrP (by omega)
          exact ⟨gp, cp, rfl, hW.cells.2.2.1, (hW.part HP1.out).2.2.2.1⟩
        have HFa := hideE hfacts
        clear hfacts
        go_upto_region 4 with (go_at_call 32; refine HR1.out.mono ?_; rintro e w2 ⟨rfl, h2⟩; obtain ⟨gp, cp, rfl, q0, q1⟩ := HFa.out w2 h2; have H2 := hideE h2; clear h2)
        go_loopg [27] m (fun q2 j W => ∃ (t : Nat) (P2 : List Pt) (wt2 : List Nat) (vw2 : Value), t + q2 = m ∧ j = .int .i64 (t : Int) ∧ FM w0 B0 gf va vb (.slice (some ⟨gp, 0, none⟩) n cp) vw2 n (A.set k Y) (B.set k Z) P2 wt2 nx bf W ∧ Aw n P1 (waL P1) (bf k) t P2 wt2)
        case atStart => exact ⟨0, P1, wt', vw1, by omega, rfl, H2.out, Aw.start _ (by
          have := HFL.out.wq.pop
          rw [HN.out.n_] at this
          rw [HW1.out]; exact this)⟩
        case round =>
          clear q0 q1 H2
          obtain ⟨t, P2, wt2, vw2, htq, rfl, h3, hA⟩ := hrel
          have HA := hideE hA
          cases gk with
          | zero =>
            obtain rfl : t = m := by omega
            have hk' : ¬ ((t : Int) < (t : Int)) := by omega
            have H3 := hideE h3
            clear hA h3
            go_wp2_with fail
            go_roundg (leftF F (A.set k Y) wt2.length)
            case measure =>
              have h1 := HGr.out
              rw [← HLF.out]
              exact left_more h1.1 h1.2 (by rw [HN.out.n_]; exact HA.out.wq.few)
            case rel =>
              have hm := HFL.out.more (k := k) (ws' := waL P2) (wt' := wt2) (by rw [HN.out.n_]; exact HA.out.wq) (fun j hj hw => by
                have h1 := HA.out.mem j
                rw [hw, List.take_of_length_le (by rw [HM.out]; exact Nat.le_refl _), HW1.out] at h1
                refine ⟨?_, fun c => ?_⟩
                · cases e : ((waL P).set k false).getD j false with
                  | false => rfl
                  | true => exact absurd (h1.2 (.inl e)) (by simp)
                · exact absurd (h1.2 (.inr ((HN.out.bf_ k j).2 ⟨by rw [← HN.out.n_]; exact hj, c⟩))) (by simp))
              rw [HY.out, HZ.out] at hm
              exact ⟨_, _, P2, wt2, vw2, ⟨H3.out, hm, HPT.out.same HA.out.same, rfl⟩⟩
          | succ q2 =>
            have hk' : ((t : Int) < (m : Int)) := by omega
            have ht0 : (0 : Int) ≤ (t : Int) := by omega
            have hwt : IntKind.i64.wrap ((t : Int) + 1) = (t : Int) + 1 := wrE (by omega) (by omega)
            obtain ⟨j, hj⟩ : ∃ j, (bf k)[t]? = some j := ⟨(bf k)[t]'(by rw [HM.out]; omega), List.getElem?_eq_getElem (by rw [HM.out]; omega)⟩
            have hjn := ((HN.out.bf_ k j).1 (List.mem_of_getElem? hj)).1
            obtain ⟨p2, hp2, _, _, _, e4⟩ := hA.same.get HP1.out
            have hrf := h3.fs.rf k p2 hp2
            rw [e4] at hrf
            simp only [HM.out] at hrf
            obtain ⟨gn, rfl⟩ := own_some hrf (by omega)
            have e0 := num_at hrf hj
            obtain ⟨pj, hpj⟩ : ∃ p, P2[j]? = some p := ⟨P2[j]'(by rw [h3.lenP]; exact hjn), List.getElem?_eq_getElem (by rw [h3.lenP]; exact hjn)⟩
            have hfew2 := hA.wq.few
            have HAw := hideE (await_any h3 hpj hn (by omega))
            have HSt := hideE (hA.step hj hpj hjn)
            clear hA h3 hj hp2 e4 hrf hpj
            go_wp2_with (go_at_call 30; refine HAw.out.mono ?_; rintro e w4 ⟨rfl, vw4, h4⟩; have H4 := hideE h4; clear h4)
            go_roundg q2
            case measure => omega
            case rel => exact ⟨t + 1, _, _, vw4, by omega, by simp, H4.out, HSt.out⟩
end Go.Proofs.YtcffpmicencfpabGreat
