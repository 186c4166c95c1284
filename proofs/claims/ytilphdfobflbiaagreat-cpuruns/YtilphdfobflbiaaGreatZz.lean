/-
  The statements' own test whether two lists of calls are the same: of two rows that hold the same it says yes.
  Calls behind calls; the answers that are left.
-/
import Derived.Laws.OwnMore
import Derived.Laws.AppendOwnNone
import Derived.Test.YtilphdfobflbiaaGreatZe
import Derived.Test.YtilphdfobflbiaaGreatZk
import Derived.Test.YtilphdfobflbiaaGreatZm
import Derived.Test.YtilphdfobflbiaaGreatZo
namespace Go.Proofs.YtilphdfobflbiaaGreat
open Go.RowKit Go.Maps Cp Ip Mm
set_option linter.unusedSimpArgs false

theorem infoK8 {c : Mach} : (Tryz.prog.info? 77).map (·.size) = some (askL c).length := by rw [askL_len]; exact infoK
theorem size_arr8 (w : World) : (sizeOf 75).run Tryz.prog w = .ok 8 w := by kernel_rfl
theorem part_arr8 (X : Array Value) (w : World) : (part 75 X 0).run Tryz.prog w = .ok (.agg (X.extract 0 8)) w := by
  simp [part, isAgg, run_underlying Tryz.underlying75, size_arr8]
theorem eql_arr8 (d : Nat) (X : Array Value) (hx : ∀ j ∈ List.range 8, ∃ a, X[j * 1]? = some (.int .u32 a)) (w : World) : (Op.equalIn (d + 2) 75 (.agg X) (.agg X)).run Tryz.prog w = .ok true w := by
  obtain ⟨i, hi⟩ := infoU32
  rw [run_equalIn_array w (d + 1) _ _ Tryz.underlying75 hi, cellsU1]
  exact items_same w d Tryz.underlying22 1 _ _ hx
theorem fields_one {P : Program} {w : World} {d : Nat} {xs : Array Value} {f0 : Field} {a0 : Value} (n0 : f0.name ≠ "_") (p0 : (part f0.type xs f0.offset).run P w = .ok a0 w)
    (e0 : (Op.equalIn d f0.type a0 a0).run P w = .ok true w) : (Op.eqFields d xs xs [f0]).run P w = .ok true w := by
  simp [Op.eqFields, n0, p0, e0]
theorem ask_row (c : Mach) : ∀ j ∈ List.range 8, ∃ a, ((askL c).toArray.extract 0 8)[j * 1]? = some (.int .u32 a) := by
  intro j hj
  have hj : j < 8 := List.mem_range.1 hj
  refine ⟨((c.x (10 + j)).toNat : Int), ?_⟩
  have : (askL c)[j]? = some (.int .u32 ((c.x (10 + j)).toNat : Int)) := row_at _ _ _ hj
  rw [Nat.mul_one, Array.getElem?_extract]
  simp only [Nat.zero_add, Nat.sub_zero, List.size_toArray, askL_len]
  rw [if_pos (by omega)]
  simpa using this
theorem eqlInK (d : Nat) (c : Mach) (w : World) : (Op.equalIn (d + 3) 77 (.agg (askL c).toArray) (.agg (askL c).toArray)).run Tryz.prog w = .ok true w := by
  have hu := Tryz.underlying77
  have hf := fieldsOf_of hu
  rw [run_equalIn_struct w (d + 2) 77 _ _ (by rw [hf]; exact hu) Tryz.stoodInHeld77, hf]
  exact fields_one (by decide) (part_arr8 _ w) (eql_arr8 d _ (ask_row c) w)
theorem neqK (c : Mach) (w : World) : (binOp .neq 77 (.agg (askL c).toArray) (.agg (askL c).toArray)).run Tryz.prog w = .ok (.bool false) w := by
  rw [run_neq_struct, eqlInK 9997]; rfl
theorem askAll_at : ∀ (L : List Mach) (k : Nat) (h : k < L.length) (j : Nat) (v : Value), (askL L[k])[j]? = some v → (askAll L)[k * 8 + j]? = some v
  | [], k, h, _, _, _ => by simp at h
  | c :: r, 0, _, j, v, hv => by
    have hj : j < 8 := (askL_at c j v hv).1
    show (askL c ++ askAll r)[0 * 8 + j]? = some v
    rw [List.getElem?_append_left (by rw [askL_len]; omega), Nat.zero_mul, Nat.zero_add]; exact hv
  | c :: r, k + 1, h, j, v, hv => by
    show (askL c ++ askAll r)[(k + 1) * 8 + j]? = some v
    rw [List.getElem?_append_right (by rw [askL_len]; omega), askL_len, show (k + 1) * 8 + j - 8 = k * 8 + j by omega]
    exact askAll_at r k (by simpa using h) j v hv
theorem own_range {w W : World} {base g cap n : Nat} {L : List Mach} (h : w.ownsRow base 77 8 (.slice (some ⟨g, 0, none⟩) L.length cap) L.length (askAll L)) (hW : W = w.drewN n) (k : Nat) (hk : k < L.length) : W.rangeAt g (k * 8) (askL L[k]) := by
  intro j v hv
  have hj : j < 8 := (askL_at _ j v hv).1
  have := askAll_at L k hk j v hv
  rw [hW, ← this]
  exact h.cellAt (k * 8 + j) (by rw [Nat.mul_comm]; omega)

set_option maxRecDepth 100000 in
set_option maxHeartbeats 2000000 in
theorem callsame_yes {base base' : Nat} {v v' : Value} {L : List Mach} (w : World) (h : w.ownsRow base 77 8 v L.length (askAll L)) (h' : w.ownsRow base' 77 8 v' L.length (askAll L)) (hl : L.length ≤ 4294967296) :
    Calls Tryz.prog 13 #[v, v'] w fun e w' => e = .returned (.bool true) ∧ ∃ n, w' = w.drewN n := by
  have hne := neqK
  rcases h.2 with ⟨rfl, h0⟩ | ⟨g, cap, cur, rfl, hb, _⟩
  · obtain rfl : L = [] := List.eq_nil_of_length_eq_zero h0
    rcases h'.2 with ⟨rfl, _⟩ | ⟨g', cap', cur', rfl, _⟩
    all_goals
      go_enter Tryz.func13, Tryz.ntmps13
      go_wp2
      go_loopw [5] (fun u W => u = .int .i64 0 ∧ W = w) (fun _ _ => 0)
      case atStart => exact ⟨rfl, rfl⟩
      case round =>
        obtain ⟨rfl, rfl⟩ := hrel
        go_wp2
        go_ret
        exact ⟨rfl, 0, rfl⟩
  · rcases h'.2 with ⟨rfl, h0⟩ | ⟨g', cap', cur', rfl, _⟩
    · obtain rfl : L = [] := List.eq_nil_of_length_eq_zero h0
      go_enter Tryz.func13, Tryz.ntmps13
      go_wp2
      go_loopw [5] (fun u W => u = .int .i64 0 ∧ W = w) (fun _ _ => 0)
      case atStart => exact ⟨rfl, rfl⟩
      case round =>
        obtain ⟨rfl, rfl⟩ := hrel
        go_wp2
        go_ret
        exact ⟨rfl, 0, rfl⟩
    · go_enter Tryz.func13, Tryz.ntmps13
      go_wp2
      go_loopw [5] (fun u W => ∃ k n : Nat, u = .int .i64 k ∧ k ≤ L.length ∧ W = w.drewN n) (fun u _ => L.length - (intOf u).toNat)
      case atStart => exact ⟨0, 0, rfl, Nat.zero_le _, rfl⟩
      case round =>
        obtain ⟨k, n, rfl, hk, hW⟩ := hrel
        by_cases hlt : k < L.length
        · have r1 := own_range h hW k hlt
          have r2 := own_range h' hW k hlt
          generalize L[k] = c at r1 r2
          have HW := hideC hW
          clear hW h h' hb
          go_wp2_with fail
          refine wp_region_noPanic ?_
          refine wp_region_held_drew (S := fun W => W.rangeAt g (k * 8) (askL c) ∧ W.rangeAt g' (k * 8) (askL c)) (by kernel_rfl) (show wr.drew.rangeAt g (k * 8) (askL c) ∧ wr.drew.rangeAt g' (k * 8) (askL c) from ⟨r1, r2⟩) (fun s0 => ?_)
          refine wpAnyH_takeAt (i := 0) (v := ?_) rfl (by kernel_rfl) (by kernel_rfl) (by kernel_rfl) (fun _ _ _ h => h) (Or.inl ⟨by rfl, ?_⟩) s0 ?_
          rotate_left 1
          · intro w' hS; clear hS
            go_simp <;> with_reducible rfl
          try simp only [Act.put, List.setIfInBounds_toArray, List.set_cons_zero, List.set_cons_succ]
          refine wpAnyH_takeAt (i := 1) (v := ?_) rfl (by kernel_rfl) (by kernel_rfl) (by kernel_rfl) (fun _ _ _ h => h) (Or.inl ⟨by rfl, ?_⟩) s0 ?_
          rotate_left 1
          · intro w' hS; clear hS
            go_simp <;> with_reducible rfl
          try simp only [Act.put, List.setIfInBounds_toArray, List.set_cons_zero, List.set_cons_succ]
          refine wpAnyH_takeAt (i := 2) (v := ?_) rfl (by kernel_rfl) (by kernel_rfl) (by kernel_rfl) (fun _ _ _ h => h) (Or.inl ⟨by rfl, ?_⟩) s0 ?_
          rotate_left 1
          · intro w' hS; clear hS
            go_simp <;> with_reducible rfl
          try simp only [Act.put, List.setIfInBounds_toArray, List.set_cons_zero, List.set_cons_succ]
          refine wpAnyH_takeAt (i := 3) (v := .agg (askL c).toArray) rfl (by kernel_rfl) (by kernel_rfl) (by kernel_rfl) (fun _ _ _ h => h) (yieldsIf_load_mid (by rfl) 77 _ rfl g (k * 8) rfl (askL c) _ (fun _ h => h.1) Tryz.underlying77 rfl infoK8) s0 ?_
          simp only [Act.put, List.setIfInBounds_toArray, List.set_cons_zero, List.set_cons_succ]
          refine wpAnyH_takeAt (i := 4) (v := ?_) rfl (by kernel_rfl) (by kernel_rfl) (by kernel_rfl) (fun _ _ _ h => h) (Or.inl ⟨by rfl, ?_⟩) s0 ?_
          rotate_left 1
          · intro w' hS; clear hS
            go_simp <;> with_reducible rfl
          try simp only [Act.put, List.setIfInBounds_toArray, List.set_cons_zero, List.set_cons_succ]
          refine wpAnyH_takeAt (i := 5) (v := ?_) rfl (by kernel_rfl) (by kernel_rfl) (by kernel_rfl) (fun _ _ _ h => h) (Or.inl ⟨by rfl, ?_⟩) s0 ?_
          rotate_left 1
          · intro w' hS; clear hS
            go_simp <;> with_reducible rfl
          try simp only [Act.put, List.setIfInBounds_toArray, List.set_cons_zero, List.set_cons_succ]
          refine wpAnyH_takeAt (i := 6) (v := ?_) rfl (by kernel_rfl) (by kernel_rfl) (by kernel_rfl) (fun _ _ _ h => h) (Or.inl ⟨by rfl, ?_⟩) s0 ?_
          rotate_left 1
          · intro w' hS; clear hS
            go_simp <;> with_reducible rfl
          try simp only [Act.put, List.setIfInBounds_toArray, List.set_cons_zero, List.set_cons_succ]
          refine wpAnyH_takeAt (i := 7) (v := .agg (askL c).toArray) rfl (by kernel_rfl) (by kernel_rfl) (by kernel_rfl) (fun _ _ _ h => h) (yieldsIf_load_mid (by rfl) 77 _ rfl g' (k * 8) rfl (askL c) _ (fun _ h => h.2) Tryz.underlying77 rfl infoK8) s0 ?_
          simp only [Act.put, List.setIfInBounds_toArray, List.set_cons_zero, List.set_cons_succ]
          refine wpAnyH_takeAt (i := 8) (v := ?_) rfl (by kernel_rfl) (by kernel_rfl) (by kernel_rfl) (fun _ _ _ h => h) (Or.inl ⟨by rfl, ?_⟩) s0 ?_
          rotate_left 1
          · intro w' hS; clear hS
            go_simp <;> with_reducible rfl
          try simp only [Act.put, List.setIfInBounds_toArray, List.set_cons_zero, List.set_cons_succ]
          refine wpAnyH_done (by kernel_rfl) ?_ _
          refine NoPanic.normal ?_
          go_wp2_with fail
          exact ⟨⟨k + 1, n + 1, by go_num, by omega, by rw [HW.out]; rfl⟩, by simp [intOf]; omega⟩
        · have e : k = L.length := by omega
          subst e
          go_wp2
          go_ret
          exact ⟨rfl, n, rfl⟩
end Go.Proofs.YtilphdfobflbiaaGreat
namespace Go.Proofs.YtilphdfobflbiaaGreat
open Go.RowKit Go.Maps Cp Ip Mm
set_option linter.unusedSimpArgs false

theorem askAll_one (L : List Mach) : ∀ u ∈ askAll L, u.oneCell' = true := by
  intro u hu
  unfold askAll at hu
  rw [List.mem_flatten] at hu
  obtain ⟨x, hx, hu⟩ := hu
  rw [List.mem_map] at hx
  obtain ⟨c, _, rfl⟩ := hx
  exact askL_one c u hu
theorem askAll_app (L M : List Mach) : askAll (L ++ M) = askAll L ++ askAll M := by simp [askAll]
theorem wpList_append_calls {ops : Array Oper} {rest : List Oper} {o : Oper} {a : Act} {w : World} {Q : Exit → Act → World → Prop} (hgd : o.guard = none) (s x : Operand)
    (ho : o.op = .call { callee := .builtin .append, args := #[s, x], argTypes := #[43, 43] }) {base base' : Nat} {v v2 : Value} {L M : List Mach}
    (hs : a.eval s = v) (hown : w.ownsRow base 77 8 v L.length (askAll L)) (hx : a.eval x = v2) (hown2 : w.ownsRow base' 77 8 v2 M.length (askAll M))
    (hl : L.length ≤ 65536) (hm : M.length ≤ 65536) (hbase : base ≤ w.heap.size)
    (h : ∀ v' w', w'.ownsRow base 77 8 v' (L ++ M).length (askAll (L ++ M)) → w.grownBy w' v.ownBlock → wpList Tryz.prog ops Q rest (a.put o.dst v') w') : wpList Tryz.prog ops Q (o :: rest) a w := by
  obtain ⟨i0, hi, hz0, hz1, hz2⟩ := info_parts infoK2
  rcases hown2.2 with ⟨rfl, h0⟩ | ⟨g, cap, cur, rfl, hb, hg, hc1, hc2, hcs, htk⟩
  · obtain rfl : M = [] := List.eq_nil_of_length_eq_zero h0
    refine wpList_append_own_none hgd s x 43 ho base 77 i0 8 Tryz.underlying43 hi v L.length (askAll L) hs hown hx ?_
    exact h v w (by rw [List.append_nil]; exact hown) ⟨rfl, rfl, rfl, Nat.le_refl _, fun _ _ _ => rfl⟩
  · refine wpList_append_own w hgd s x 43 ho base 77 i0 (.agg zero8.toArray) 8 32 Tryz.underlying43 hi hz0 hz1 hz2 rfl (by decide) v L.length (askAll L) hs hown ⟨g, 0, none⟩ M.length cap (askAll M) hx (askAll_len M) ?_ (askAll_one M) (by unfold maxLen; omega) (by omega) hbase ?_
    · intro j u hj
      have hjl : j < M.length * 8 := by rw [← askAll_len]; exact (List.getElem?_eq_some_iff.1 hj).1
      rw [show (⟨g, 0, none⟩ : Addr).add j = ⟨g, j, none⟩ by unfold Addr.add; split <;> simp_all, hown2.cellAt j hjl]; exact hj
    · intro v' w' h1 h2 _
      refine h v' w' ?_ h2
      rw [List.length_append, askAll_app]; exact h1
theorem ansAt_drop {w : World} {ad : Option Addr} {M cap K : Nat} {zs : List (BitVec 32)} (h : AnsAt w (.slice ad M cap) zs) (hM : M = zs.length) (hK : K ≤ M) : AnsAt w (.slice (if cap = K then ad else ad.map (·.add K)) (M - K) (cap - K)) (zs.drop K) := by
  obtain ⟨ad', cap', e, hc, f⟩ := h
  simp only [Value.slice.injEq] at e
  obtain ⟨rfl, _, rfl⟩ := e
  refine ⟨_, _, by rw [List.length_drop, ← hM], by rw [List.length_drop]; omega, fun i hi => ?_⟩
  rw [List.length_drop] at hi
  obtain ⟨b, o, e, q⟩ := f (K + i) (by omega)
  refine ⟨b, o + K, ?_, ?_⟩
  · rw [if_neg (by omega), e]
    simp only [Option.map_some, Option.some.injEq]
    unfold Addr.add
    by_cases hk : K = 0 <;> simp [hk]
  · rw [show o + K + i = o + (K + i) by omega, q]
    simp
end Go.Proofs.YtilphdfobflbiaaGreat
