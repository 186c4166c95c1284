/-
  A machine held against itself, and a call.
  Steps and runs, plainly: what stays, how runs are put together, how many calls there are. No program in sight.
  Laws for whole rows in a region that keeps its order, at an operation that is guarded. No program in sight.
-/
import Derived.DeepKeys
import Derived.WalkKit
import Derived.Laws.Rows
import Derived.Laws.Tables
import Derived.Deep.MidRow
import Derived.Test.YtilphdfobflbiaaGreatZm
namespace Go.Proofs.YtilphdfobflbiaaGreat
open Go.RowKit Cp Ip
set_option linter.unusedSimpArgs false

theorem items_same {P : Program} (w : World) (d : Nat) {e : TypeId} {k : IntKind} (hu : P.underlying e = some (.int k)) (c : Nat) (xs : Array Value) : ∀ is : List Nat, (∀ i ∈ is, ∃ a, xs[i * c]? = some (.int .u32 a)) → (Op.eqItems (d + 1) e c xs xs is).run P w = .ok true w
  | [], _ => by simp [Op.eqItems]
  | i :: is, h => by
    obtain ⟨a, ha⟩ := h i (List.mem_cons_self ..)
    have p : (part e xs (i * c)).run P w = .ok (.int .u32 a) w := by simp [part, isAgg, run_underlying hu, ha]
    have ih := items_same w d hu c xs is (fun j hj => h j (List.mem_cons_of_mem _ hj))
    simp only [Op.eqItems, Sem.run_bind, p, Result.andThen_ok, run_equalIn_int w d e .u32 k a a hu]
    simp [ih]
theorem cellsU1 : Tryz.prog.cellsOf 22 = 1 := by kernel_rfl
theorem infoU32 : ∃ i, Tryz.prog.info? 22 = some i := by
  cases h : Tryz.prog.info? 22 with
  | some i => exact ⟨i, rfl⟩
  | none => exfalso; have := infoU1; rw [h] at this; cases this
theorem eql_row (c : Mach) : ∀ j ∈ List.range 32, ∃ a, ((cells c).extract 0 32)[j * 1]? = some (.int .u32 a) := by
  intro j hj
  have hj : j < 32 := List.mem_range.1 hj
  refine ⟨((c.x j).toNat : Int), ?_⟩
  rw [Nat.mul_one, Array.getElem?_extract, cells_size]
  simp only [Nat.zero_add, Nat.sub_zero]
  rw [if_pos (by omega), cells_x c j hj]
theorem eql_arr (d : Nat) (X : Array Value) (hx : ∀ j ∈ List.range 32, ∃ a, X[j * 1]? = some (.int .u32 a)) (w : World) : (Op.equalIn (d + 2) 23 (.agg X) (.agg X)).run Tryz.prog w = .ok true w := by
  obtain ⟨i, hi⟩ := infoU32
  rw [run_equalIn_array w (d + 1) _ _ Tryz.underlying23 hi, cellsU1]
  exact items_same w d Tryz.underlying22 1 _ _ hx
theorem part_pc (X : Array Value) (v : Value) (hp : X[32]? = some v) (w : World) : (part 22 X 32).run Tryz.prog w = .ok v w := by simp [part, isAgg, run_underlying Tryz.underlying22, hp]
theorem size_arr (w : World) : (sizeOf 23).run Tryz.prog w = .ok 32 w := by kernel_rfl
theorem part_arr (X : Array Value) (w : World) : (part 23 X 0).run Tryz.prog w = .ok (.agg (X.extract 0 32)) w := by
  simp [part, isAgg, run_underlying Tryz.underlying23, size_arr]
theorem eql_one (d : Nat) (a : Int) (w : World) : (Op.equalIn (d + 1) 22 (.int .u32 a) (.int .u32 a)).run Tryz.prog w = .ok true w := by
  rw [run_equalIn_int w d 22 .u32 _ _ _ Tryz.underlying22]; simp
theorem fieldsOf_of {P : Program} {t : TypeId} {fs : Array Field} (hu : P.underlying t = some (.struct fs)) : P.fieldsOf t = fs := by unfold Program.fieldsOf; rw [hu]
theorem fields_two {P : Program} {w : World} {d : Nat} {xs : Array Value} {f0 f1 : Field} {a0 a1 : Value} (n0 : f0.name ≠ "_") (n1 : f1.name ≠ "_") (p0 : (part f0.type xs f0.offset).run P w = .ok a0 w) (p1 : (part f1.type xs f1.offset).run P w = .ok a1 w)
    (e0 : (Op.equalIn d f0.type a0 a0).run P w = .ok true w) (e1 : (Op.equalIn d f1.type a1 a1).run P w = .ok true w) : (Op.eqFields d xs xs [f0, f1]).run P w = .ok true w := by
  simp [Op.eqFields, n0, n1, p0, p1, e0, e1]
theorem eql_cpu (d : Nat) (X : Array Value) (a : Int) (hx : ∀ j ∈ List.range 32, ∃ a, (X.extract 0 32)[j * 1]? = some (.int .u32 a)) (hp : X[32]? = some (.int .u32 a)) (w : World) : (Op.equalIn (d + 3) 25 (.agg X) (.agg X)).run Tryz.prog w = .ok true w := by
  have hu := Tryz.underlying25
  have hf := fieldsOf_of hu
  rw [run_equalIn_struct w (d + 2) 25 _ _ (by rw [hf]; exact hu) Tryz.stoodInHeld25, hf]
  exact fields_two (by decide) (by decide) (part_arr X w) (part_pc X _ hp w) (eql_arr d _ hx w) (eql_one (d + 1) a w)
theorem eqlIn (d : Nat) (c : Mach) (w : World) : (Op.equalIn (d + 3) 25 (.agg (cells c)) (.agg (cells c))).run Tryz.prog w = .ok true w :=
  eql_cpu d (cells c) (c.pc.toNat : Int) (eql_row c) (cells_pc c) w
theorem eqlC (c : Mach) (w : World) : (binOp .eql 25 (.agg (cells c)) (.agg (cells c))).run Tryz.prog w = .ok (.bool true) w := by
  rw [run_eql_struct, eqlIn 9997]; rfl
theorem neqC (c : Mach) (w : World) : (binOp .neq 25 (.agg (cells c)) (.agg (cells c))).run Tryz.prog w = .ok (.bool false) w := by
  rw [run_neq_struct, eqlIn 9997]; rfl
end Go.Proofs.YtilphdfobflbiaaGreat
namespace Go.Proofs.YtilphdfobflbiaaGreat
open Go.RowKit Go.Maps Cp Ip Mm
set_option linter.unusedSimpArgs false

theorem mach_ext {c d : Mach} (h : ∀ i, c.x i = d.x i) (hp : c.pc = d.pc) : c = d := by
  cases c; cases d; simp only [Mach.mk.injEq]; exact ⟨funext h, hp⟩
theorem zr_0 (c : Mach) : (zr c).x 0 = (BitVec.ofNat 32 0) := by simp [zr, sx]
theorem zr_same {c : Mach} (h : c.x 0 = (BitVec.ofNat 32 0)) : zr c = c := by
  refine mach_ext (fun i => ?_) rfl
  by_cases hi : i = 0
  · subst hi; rw [zr_0, h]
  · simp [zr, sx, hi]
theorem onw_x {c : Mach} {rd : Int} {v : BitVec 32} (i : Nat) (hi : i ≠ rd.toNat) : (onw c rd v).x i = c.x i := by
  unfold onw sp put; split
  · rfl
  · simp [sx, hi]
theorem onw_0 {c : Mach} {rd : Int} {v : BitVec 32} (h : 0 ≤ rd) (hc : c.x 0 = (BitVec.ofNat 32 0)) : (onw c rd v).x 0 = (BitVec.ofNat 32 0) := by
  unfold onw sp put; split
  · exact hc
  · simp only [sx]; rw [if_neg (by omega)]; exact hc
theorem jmp_x {c : Mach} {rd : Int} {v : BitVec 32} (i : Nat) (hi : i ≠ rd.toNat) : (jmp c rd v).x i = c.x i := by
  unfold jmp sp put; split
  · rfl
  · simp [sx, hi]
theorem jmp_0 {c : Mach} {rd : Int} {v : BitVec 32} (h : 0 ≤ rd) (hc : c.x 0 = (BitVec.ofNat 32 0)) : (jmp c rd v).x 0 = (BitVec.ofNat 32 0) := by
  unfold jmp sp put; split
  · exact hc
  · simp only [sx]; rw [if_neg (by omega)]; exact hc
theorem fRd_0 (x : BitVec 32) (k : Nat) : 0 ≤ fRd x k := by
  unfold fRd regIf; split <;> omega

/-- What a step leaves as it was. -/
structure Leaves (c : Mach) (l : Cs) (o : Out) : Prop where
  ends : o.e ≠ 0 → o.e ≠ 1 → o.c = zr c ∧ o.l = l
  calls : o.e = 1 → o.c = sp (zr c) (c.pc + (BitVec.ofNat 32 4)) ∧ o.l = l
  on : o.e = 0 → ∃ r, (∀ i, i ≠ r → o.c.x i = (zr c).x i) ∧ (o.l = l ∨ o.c.x r = (zr c).x r)
  nought : o.c.x 0 = (BitVec.ofNat 32 0)
  span : 0 ≤ o.e ∧ o.e ≤ 5

theorem zr_sp (c : Mach) (p : BitVec 32) : (sp (zr c) p).x 0 = (BitVec.ofNat 32 0) := zr_0 c
theorem ins_leaves (c : Mach) (l : Cs) (op rd rs1 rs2 imm : Int) (hrd : 0 ≤ rd) (hr : right op rd rs1 rs2 imm = true) (hop : 0 ≤ op ∧ op < 47) : Leaves c l (insM (zr c) l op rd rs1 rs2 imm) := by
  unfold insM
  by_cases hp : isPlain op = true
  · rw [if_pos hp]
    have e : doesM (zr c) op rd rs1 rs2 imm = onw (zr c) rd (reckV (zr c) op rs1 rs2 imm) := by
      unfold doesM doesB; rw [hr, hp]; simp [zr_zr]
    rw [e]
    exact ⟨fun h => absurd rfl h, fun h => (by cases h), fun _ => ⟨rd.toNat, fun i hi => onw_x i hi, .inl rfl⟩, onw_0 hrd (zr_0 c), by simp [npE]⟩
  · rw [if_neg hp]
    have hp' : ¬ (op = 0 ∨ op = 1 ∨ 18 ≤ op ∧ op ≤ 44) := by simpa [isPlain] using hp
    by_cases h2 : op = 2
    · subst h2
      refine ⟨fun h => absurd rfl h, fun h => (by cases h), fun _ => ⟨rd.toNat, fun i hi => ?_, .inl rfl⟩, ?_, by simp [npE]⟩
      · exact jmp_x i hi
      · exact jmp_0 hrd (zr_0 c)
    by_cases h3 : op = 3
    · subst h3
      refine ⟨fun h => absurd rfl h, fun h => (by cases h), fun _ => ⟨rd.toNat, fun i hi => ?_, .inl rfl⟩, ?_, by simp [npE]⟩
      · exact jmp_x i hi
      · exact jmp_0 hrd (zr_0 c)
    by_cases hb : 4 ≤ op ∧ op ≤ 9
    · have eE : npE (zr c) op rs1 imm = 0 := by unfold npE; rw [if_pos (by omega)]
      have eM : npM (zr c) l op rd rs1 rs2 imm = brM (zr c) op rs1 rs2 imm := by unfold npM; rw [if_neg h2, if_neg h3, if_pos hb]
      have eL : npL (zr c) l op rs1 rs2 imm = l := by unfold npL; rw [if_neg (by omega)]
      rw [eE, eM, eL]
      exact ⟨fun h => absurd rfl h, fun h => (by cases h), fun _ => ⟨0, fun i _ => rfl, .inl rfl⟩, zr_0 c, by simp [npE]⟩
    by_cases ha : 10 ≤ op ∧ op ≤ 17
    · have eE : npE (zr c) op rs1 imm = accE (zr c) op rs1 imm := by unfold npE; rw [if_neg (by omega), if_pos ha]
      have eM : npM (zr c) l op rd rs1 rs2 imm = accM (zr c) l op rd rs1 imm := by unfold npM; rw [if_neg h2, if_neg h3, if_neg hb, if_pos ha]
      have eL : npL (zr c) l op rs1 rs2 imm = accL (zr c) l op rs1 rs2 imm := by unfold npL; rw [if_pos ha]
      rw [eE, eM, eL]
      unfold accE accM accL
      by_cases hk : accOk (zr c) op rs1 imm = true
      · rw [if_pos hk, if_pos hk]
        by_cases h15 : 15 ≤ op
        · rw [if_pos h15, if_pos ⟨hk, h15⟩]
          exact ⟨fun h => absurd rfl h, fun h => (by cases h), fun _ => ⟨0, fun i _ => rfl, .inr rfl⟩, zr_0 c, by simp [npE]⟩
        · rw [if_neg h15, if_neg (fun h => h15 h.2)]
          exact ⟨fun h => absurd rfl h, fun h => (by cases h), fun _ => ⟨rd.toNat, fun i hi => onw_x i hi, .inl rfl⟩, onw_0 hrd (zr_0 c), by simp [npE]⟩
      · rw [if_neg hk, if_neg hk, if_neg (fun h => hk h.1)]
        exact ⟨fun _ _ => ⟨rfl, rfl⟩, fun h => (by cases h), fun h => (by cases h), zr_0 c, by simp [npE]⟩
    by_cases h45 : op = 45
    · subst h45
      exact ⟨fun _ h => absurd rfl h, fun _ => ⟨rfl, rfl⟩, fun h => (by cases h), zr_0 c, by simp [npE]⟩
    · have h46 : op = 46 := by omega
      subst h46
      exact ⟨fun _ _ => ⟨rfl, rfl⟩, fun h => (by cases h), fun h => (by cases h), zr_0 c, by simp [npE]⟩
theorem step_leaves (c : Mach) (l : Cs) : Leaves c l (stepM c l) := by
  unfold stepM
  split
  · exact ⟨fun _ _ => ⟨rfl, rfl⟩, fun h => (by cases h), fun h => (by cases h), zr_0 c, by simp [npE]⟩
  · split
    · exact ⟨fun _ _ => ⟨rfl, rfl⟩, fun h => (by cases h), fun h => (by cases h), zr_0 c, by simp [npE]⟩
    · next k hk =>
      obtain ⟨h1, h2⟩ := deck_some hk
      exact ins_leaves c l k _ _ _ _ (fRd_0 _ _) (again_right k h1 _ h2) (by omega)

theorem sx10_0 {c : Mach} (h : c.x 0 = (BitVec.ofNat 32 0)) (a : BitVec 32) : (sx c 10 a).x 0 = (BitVec.ofNat 32 0) := by simp [sx, h]
theorem run_0 (c : Mach) (l : Cs) (zs : List (BitVec 32)) : runM 0 c l zs = ⟨c, l, [], 6, 0⟩ := by simp [runM]
/-- How a run goes, by its first step. -/
theorem run_ways (f : Nat) (c : Mach) (l : Cs) (zs : List (BitVec 32)) :
    (∃ a r, zs = a :: r ∧ (stepM c l).e = 1 ∧ runM (f + 1) c l zs = pre [(stepM c l).c] 1 (runM f (sx (stepM c l).c 10 a) (stepM c l).l r))
    ∨ (zs = [] ∧ (stepM c l).e = 1 ∧ runM (f + 1) c l zs = ⟨(stepM c l).c, (stepM c l).l, [(stepM c l).c], 1, 1⟩)
    ∨ ((stepM c l).e = 0 ∧ runM (f + 1) c l zs = pre [] 1 (runM f (stepM c l).c (stepM c l).l zs))
    ∨ ((stepM c l).e ≠ 1 ∧ (stepM c l).e ≠ 0 ∧ runM (f + 1) c l zs = ⟨(stepM c l).c, (stepM c l).l, [], (stepM c l).e, 1⟩) := by
  by_cases h1 : (stepM c l).e = 1
  · cases zs with
    | nil => exact .inr (.inl ⟨rfl, h1, run_stop f c l h1⟩)
    | cons a r => exact .inl ⟨a, r, rfl, h1, run_call f c l a r h1⟩
  · by_cases h0 : (stepM c l).e = 0
    · exact .inr (.inr (.inl ⟨h0, run_on f c l zs h0⟩))
    · exact .inr (.inr (.inr ⟨h1, h0, run_end f c l zs h1 h0⟩))

theorem run_nought : ∀ (f : Nat) (c : Mach) (l : Cs) (zs : List (BitVec 32)), c.x 0 = (BitVec.ofNat 32 0) → (runM f c l zs).c.x 0 = (BitVec.ofNat 32 0)
  | 0, c, l, zs, h => by rw [run_0]; exact h
  | f + 1, c, l, zs, h => by
    have hs := (step_leaves c l).nought
    rcases run_ways f c l zs with ⟨a, r, rfl, _, e⟩ | ⟨rfl, _, e⟩ | ⟨_, e⟩ | ⟨_, _, e⟩ <;> rw [e]
    · exact run_nought f _ _ _ (sx10_0 hs a)
    · exact hs
    · exact run_nought f _ _ _ hs
    · exact hs
theorem run_rise : ∀ (f : Nat) (c : Mach) (l : Cs) (zs : List (BitVec 32)), (∀ c l, Rise l → Rise (stepM c l).l) → Rise l → Rise (runM f c l zs).l
  | 0, c, l, zs, _, h => by rw [run_0]; exact h
  | f + 1, c, l, zs, H, h => by
    have hs := H c l h
    rcases run_ways f c l zs with ⟨a, r, rfl, _, e⟩ | ⟨rfl, _, e⟩ | ⟨_, e⟩ | ⟨_, _, e⟩ <;> rw [e]
    · exact run_rise f _ _ _ H hs
    · exact hs
    · exact run_rise f _ _ _ H hs
    · exact hs

/-- How many steps and calls a run has, and how it ends. -/
structure Counts (f : Nat) (zs : List (BitVec 32)) (r : Res) : Prop where
  steps : r.n ≤ f
  calls : r.calls.length ≤ r.n
  most : r.calls.length ≤ zs.length + 1
  asks : r.e = 1 ↔ r.calls.length = zs.length + 1
  fuel : r.e = 6 → r.n = f
  span : 1 ≤ r.e ∧ r.e ≤ 6
theorem run_counts : ∀ (f : Nat) (c : Mach) (l : Cs) (zs : List (BitVec 32)), Counts f zs (runM f c l zs)
  | 0, c, l, zs => by rw [run_0]; exact ⟨Nat.le_refl _, Nat.le_refl _, by simp, by simp, fun _ => rfl, by simp [npE]⟩
  | f + 1, c, l, zs => by
    have hs := (step_leaves c l).span
    rcases run_ways f c l zs with ⟨a, r, rfl, _, e⟩ | ⟨rfl, _, e⟩ | ⟨_, e⟩ | ⟨h1, h0, e⟩ <;> rw [e]
    · have ih := run_counts f (sx (stepM c l).c 10 a) (stepM c l).l r
      generalize runM f (sx (stepM c l).c 10 a) (stepM c l).l r = R at ih
      obtain ⟨i1, i2, i3, i4, i5, i6⟩ := ih
      exact ⟨by simp [pre]; omega, by simp [pre]; omega, by simp [pre]; omega, by simp [pre]; omega, fun h => by have := i5 h; simp [pre]; omega, i6⟩
    · exact ⟨by simp, by simp, by simp, by simp, fun h => (by cases h), by simp [npE]⟩
    · have ih := run_counts f (stepM c l).c (stepM c l).l zs
      generalize runM f (stepM c l).c (stepM c l).l zs = R at ih
      obtain ⟨i1, i2, i3, i4, i5, i6⟩ := ih
      exact ⟨by simp [pre]; omega, by simp [pre]; omega, by simp [pre]; omega, by simp [pre]; omega, fun h => by have := i5 h; simp [pre]; omega, i6⟩
    · exact ⟨by simp, by simp, by simp, by simp; exact h1, fun h => by simp at h; omega, by simp only; omega⟩

/-- A run of more steps: what it goes on with, if it had not ended; itself, if it had. -/
theorem run_more : ∀ (k m : Nat) (c : Mach) (l : Cs) (zs : List (BitVec 32)),
    ((runM k c l zs).e = 6 → (runM k c l zs).calls.length ≤ zs.length ∧ runM (k + m) c l zs = pre (runM k c l zs).calls k (runM m (runM k c l zs).c (runM k c l zs).l (zs.drop (runM k c l zs).calls.length)))
    ∧ ((runM k c l zs).e ≠ 6 → runM (k + m) c l zs = runM k c l zs)
  | 0, m, c, l, zs => by
    rw [run_0]
    exact ⟨fun _ => ⟨by simp, by simp [pre_nil]⟩, fun h => absurd rfl h⟩
  | k + 1, m, c, l, zs => by
    have hs := (step_leaves c l).span
    have e1 : k + 1 + m = (k + m) + 1 := by omega
    rw [e1]
    by_cases h1 : (stepM c l).e = 1
    · cases zs with
      | nil =>
        rw [run_stop k c l h1, run_stop (k + m) c l h1]
        exact ⟨fun h => (by cases h), fun _ => rfl⟩
      | cons a r =>
        rw [run_call k c l a r h1, run_call (k + m) c l a r h1]
        obtain ⟨i1, i2⟩ := run_more k m (sx (stepM c l).c 10 a) (stepM c l).l r
        generalize runM k (sx (stepM c l).c 10 a) (stepM c l).l r = R at i1 i2
        refine ⟨fun h => ?_, fun h => by rw [i2 h]⟩
        obtain ⟨j1, j2⟩ := i1 h
        refine ⟨by simp [pre]; omega, ?_⟩
        rw [j2, pre_pre]
        simp [pre, Nat.add_comm]
    · by_cases h0 : (stepM c l).e = 0
      · rw [run_on k c l zs h0, run_on (k + m) c l zs h0]
        obtain ⟨i1, i2⟩ := run_more k m (stepM c l).c (stepM c l).l zs
        generalize runM k (stepM c l).c (stepM c l).l zs = R at i1 i2
        refine ⟨fun h => ?_, fun h => by rw [i2 h]⟩
        obtain ⟨j1, j2⟩ := i1 h
        refine ⟨by simp [pre]; omega, ?_⟩
        rw [j2, pre_pre]
        simp [pre, Nat.add_comm]
      · rw [run_end k c l zs h1 h0, run_end (k + m) c l zs h1 h0]
        exact ⟨fun h => by simp at h; omega, fun _ => rfl⟩
end Go.Proofs.YtilphdfobflbiaaGreat
namespace Go.Proofs.YtilphdfobflbiaaGreat
open Go.RowKit
variable {P : Program} {ops : Array Oper} {rest : List Oper} {o : Oper} {a : Act} {w : World} {Q : Exit → Act → World → Prop}
theorem wpList_load_rowG (hw : Region.wanted o (yielded ops a.tmps) = true) (ty : TypeId) (x : Operand) (ho : o.op = .load ty x)
    (g : Nat) (hx : a.eval x = .pointer (some ⟨g, 0, none⟩)) (t : TypeId) (cs : Array Value) (fr : Nat × Nat) (d : TypeDesc) (hg : w.heap[g]? = some (.cells cs t fr))
    (hu : P.underlying ty = some d) (hd : (match d with | .struct _ | .array _ _ => true | _ => false) = true) (hi : (P.info? ty).map (·.size) = some cs.size)
    (h : wpList P ops Q rest (a.put o.dst (.agg cs)) w) : wpList P ops Q (o :: rest) a w :=
  wpList_step fun _ hK => by rw [if_pos hw]; exact wp_load_row ty x ho g hx t cs fr d hg hu hd hi (hK _ _ h)
theorem wpList_load_midG (hw : Region.wanted o (yielded ops a.tmps) = true) (ty : TypeId) (x : Operand) (ho : o.op = .load ty x)
    (b k : Nat) (hx : a.eval x = .pointer (some ⟨b, k, none⟩)) (cs : List Value) (d : TypeDesc) (hc : w.rangeAt b k cs)
    (hu : P.underlying ty = some d) (hd : d.isRow = true) (hi : (P.info? ty).map (·.size) = some cs.length)
    (h : wpList P ops Q rest (a.put o.dst (.agg cs.toArray)) w) : wpList P ops Q (o :: rest) a w :=
  wpList_step fun _ hK => by rw [if_pos hw]; exact wp_load_mid ty x ho b k hx cs d hc hu hd hi (hK _ _ h)
end Go.Proofs.YtilphdfobflbiaaGreat
