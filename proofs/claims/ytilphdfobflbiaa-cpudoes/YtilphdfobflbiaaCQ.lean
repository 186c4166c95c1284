/-
  A machine held against itself, and a call.
-/
import Derived.Test.YtilphdfobflbiaaCK
import Derived.DeepKeys
namespace Go.Proofs.Ytilphdfobflbiaa
open Go.RowKit Cp Ip
set_option linter.unusedSimpArgs false

theorem items_same {P : Program} (w : World) (d : Nat) {e : TypeId} {k : IntKind} (hu : P.underlying e = some (.int k)) (c : Nat) (xs : Array Value) : ∀ is : List Nat, (∀ i ∈ is, ∃ a, xs[i * c]? = some (.int .u32 a)) → (Op.eqItems (d + 1) e c xs xs is).run P w = .ok true w
  | [], _ => by simp [Op.eqItems]
  | i :: is, h => by
    obtain ⟨a, ha⟩ := h i (List.mem_cons_self ..)
    have p : (part e xs (i * c)).run P w = .ok (.int .u32 a) w := by simp [part, isAgg, run_underlying hu, ha]
    have ih := items_same w d hu c xs is (fun j hj => h j (List.mem_cons_of_mem _ hj))
    simp only [Op.eqItems, Sem.run_bind, p, Result.andThen_ok, run_equalIn_int w d e .u32 k a a hu]
    simp [ih]
theorem cellsU1 : Try.prog.cellsOf 22 = 1 := by kernel_rfl
theorem infoU32 : ∃ i, Try.prog.info? 22 = some i := by
  cases h : Try.prog.info? 22 with
  | some i => exact ⟨i, rfl⟩
  | none => exfalso; have := infoU1; rw [h] at this; cases this
theorem eql_row (c : Mach) : ∀ j ∈ List.range 32, ∃ a, ((cells c).extract 0 32)[j * 1]? = some (.int .u32 a) := by
  intro j hj
  have hj : j < 32 := List.mem_range.1 hj
  refine ⟨((c.x j).toNat : Int), ?_⟩
  rw [Nat.mul_one, Array.getElem?_extract, cells_size]
  simp only [Nat.zero_add, Nat.sub_zero]
  rw [if_pos (by omega), cells_x c j hj]
theorem eql_arr (d : Nat) (X : Array Value) (hx : ∀ j ∈ List.range 32, ∃ a, X[j * 1]? = some (.int .u32 a)) (w : World) : (Op.equalIn (d + 2) 23 (.agg X) (.agg X)).run Try.prog w = .ok true w := by
  obtain ⟨i, hi⟩ := infoU32
  rw [run_equalIn_array w (d + 1) _ _ Try.underlying23 hi, cellsU1]
  exact items_same w d Try.underlying22 1 _ _ hx
theorem part_pc (X : Array Value) (v : Value) (hp : X[32]? = some v) (w : World) : (part 22 X 32).run Try.prog w = .ok v w := by simp [part, isAgg, run_underlying Try.underlying22, hp]
theorem size_arr (w : World) : (sizeOf 23).run Try.prog w = .ok 32 w := by kernel_rfl
theorem part_arr (X : Array Value) (w : World) : (part 23 X 0).run Try.prog w = .ok (.agg (X.extract 0 32)) w := by
  simp [part, isAgg, run_underlying Try.underlying23, size_arr]
theorem eql_one (d : Nat) (a : Int) (w : World) : (Op.equalIn (d + 1) 22 (.int .u32 a) (.int .u32 a)).run Try.prog w = .ok true w := by
  rw [run_equalIn_int w d 22 .u32 _ _ _ Try.underlying22]; simp
theorem fieldsOf_of {P : Program} {t : TypeId} {fs : Array Field} (hu : P.underlying t = some (.struct fs)) : P.fieldsOf t = fs := by unfold Program.fieldsOf; rw [hu]
theorem fields_two {P : Program} {w : World} {d : Nat} {xs : Array Value} {f0 f1 : Field} {a0 a1 : Value} (n0 : f0.name ≠ "_") (n1 : f1.name ≠ "_") (p0 : (part f0.type xs f0.offset).run P w = .ok a0 w) (p1 : (part f1.type xs f1.offset).run P w = .ok a1 w)
    (e0 : (Op.equalIn d f0.type a0 a0).run P w = .ok true w) (e1 : (Op.equalIn d f1.type a1 a1).run P w = .ok true w) : (Op.eqFields d xs xs [f0, f1]).run P w = .ok true w := by
  simp [Op.eqFields, n0, n1, p0, p1, e0, e1]
theorem eql_cpu (d : Nat) (X : Array Value) (a : Int) (hx : ∀ j ∈ List.range 32, ∃ a, (X.extract 0 32)[j * 1]? = some (.int .u32 a)) (hp : X[32]? = some (.int .u32 a)) (w : World) : (Op.equalIn (d + 3) 25 (.agg X) (.agg X)).run Try.prog w = .ok true w := by
  have hu := Try.underlying25
  have hf := fieldsOf_of hu
  rw [run_equalIn_struct w (d + 2) 25 _ _ (by rw [hf]; exact hu) Try.stoodInHeld25, hf]
  exact fields_two (by decide) (by decide) (part_arr X w) (part_pc X _ hp w) (eql_arr d _ hx w) (eql_one (d + 1) a w)
theorem eqlIn (d : Nat) (c : Mach) (w : World) : (Op.equalIn (d + 3) 25 (.agg (cells c)) (.agg (cells c))).run Try.prog w = .ok true w :=
  eql_cpu d (cells c) (c.pc.toNat : Int) (eql_row c) (cells_pc c) w
theorem eqlC (c : Mach) (w : World) : (binOp .eql 25 (.agg (cells c)) (.agg (cells c))).run Try.prog w = .ok (.bool true) w := by
  rw [run_eql_struct, eqlIn 9997]; rfl
theorem neqC (c : Mach) (w : World) : (binOp .neq 25 (.agg (cells c)) (.agg (cells c))).run Try.prog w = .ok (.bool false) w := by
  rw [run_neq_struct, eqlIn 9997]; rfl
end Go.Proofs.Ytilphdfobflbiaa
