/-
  CpuCalls answers true of every scene. There are no conditions.
  The walk of CpuCalls: it answers true of any scene.
-/
import Derived.Test.YtilphdfobflbiabRows
import Derived.WalkKit
import Derived.ProofKit
import Derived.OpenShut
import Derived.Carry
import Derived.Test.YtilphdfobflbiabZt2
import Derived.Test.YtilphdfobflbiabZx
namespace Go.Proofs.Ytilphdfobflbiab
open Go.RowKit Go.Maps Cp Ip Mm
set_option linter.unusedSimpArgs false

set_option maxRecDepth 100000 in
set_option maxHeartbeats 8000000 in
theorem cpuCalls_walk (V : Scene) (w : World) (hV : SceneOk w V) (hN : V.zs.length ≤ 140737488351232) : Calls Try.prog 4 #[.agg (wcells V)] w fun e w' => e = .returned (.bool true) ∧ Below w.heap.size w w' := by
  have hz := zeroC
  have he := eqlC
  have sc0 := SceneAt.new w V
  have lo0 : Below w.heap.size w (w.alloc (.cells (wcells V) 28)) := (Below.refl _ _).alloc (Nat.le_refl _) _
  have hV0 := hV.below lo0
  go_enter Try.func4, Try.ntmps4
  go_upto_region 1 with fail
  generalize hw0 : w.alloc (.cells (wcells V) 28) = w0 at sc0 lo0 hV0 ⊢
  have hz0 : w0.heap.size = w.heap.size + 1 := by rw [← hw0]; simp
  clear hw0
  go_wp2_with (first | (refine wpList_load_row rfl 28 _ rfl w.heap.size rfl _ _ _ _ sc0 Try.underlying28 rfl (infoW _) ?_))
  refine (laid_any V w0 hV0).mono ?_
  rintro e w1 ⟨pb, bm, kb, rfl, m1, _, hp1, hb1, l1⟩
  have s1 := sc0.below l1
  have lo1 := lo0.trans (l1.mono lo0.size)
  have hA := hV0.ans.below l1
  have hz1 := l1.size
  have hbm1 := m1.lt'
  have hpm1 := m1.lt
  clear sc0 lo0 l1 hV0
  generalize laidL V = l at m1
  have qa := s1.ans
  have qf := s1.fuel
  have f0 := hV.f0
  have f1 := hV.f1
  clear hV
  obtain ⟨ad, cap, ea, hcap, hcel⟩ := id hA
  rw [ea] at qa
  generalize hf : V.fuel = f at qf f0 f1
  clear hcel hcap
  go_wp2_with (first | (refine wpList_load_cpu (by rfl) _ rfl w.heap.size rfl V s1 ?_))
  rw [ea] at hA
  refine (run_any V.c _ V.zs (min f 60) (by omega) w1 m1 hA).mono ?_
  rintro e w2 ⟨v, rfl, m2, g2, o2⟩
  have C := run_counts (min f 60).toNat (zr V.c) l V.zs
  have s2 := s1.grown g2 (by omega)
  have lo2 := below_grown lo1 g2 (by omega) lo1.size
  obtain ⟨av, cp, rfl⟩ := own_form o2
  clear s1 lo1 hA m1 m2 g2 o2 qa qf
  generalize runM (min f 60).toNat (zr V.c) l V.zs = r at C ⊢
  obtain ⟨c1, l1, calls, E, N⟩ := r
  obtain ⟨C1, C2, C3, C4, C5, C6⟩ := C
  dsimp only at C1 C2 C3 C4 C5 C6 ⊢
  obtain ⟨n3, a3⟩ := box_new2 w2 c1
  have s3 := s2.below n3
  have lo3 := lo2.trans (n3.mono lo2.size)
  clear s2 lo2
  go_upto_region 5 with (first | (refine wpList_store_row rfl 25 _ _ rfl w2.heap.size _ rfl rfl _ _ (told_box w2) (infoCs _) (cells_same _ _) (cells_one _) ?_))
  generalize (w2.alloc (.cells (cells nought) 25)).setRow w2.heap.size (cells c1) = w3 at n3 a3 s3 lo3 ⊢
  clear n3 a3
  have qa := s3.ans
  rw [ea] at qa
  have qf := s3.fuel
  rw [hf] at qf
  generalize calls.length = K at C2 C3 C4 ⊢
  generalize V.zs.length = M at hN C3 C4 qa ⊢
  have t1 : decide (N < K) = false := decide_eq_false (by omega)
  have t3 : decide (M + 1 < K) = false := decide_eq_false (by omega)
  have t2 : decide ((M : Int) + 1 < (K : Int)) = false := decide_eq_false (by omega)
  clear ea
  have fin : ∀ W : World, Below w.heap.size w W → Calls Try.prog 10 #[] W fun e w' => e = .returned (.bool true) ∧ Below w.heap.size w w' := fun W hW => (fixed4_any W).mono fun _ _ h => ⟨h.1, hW.trans (h.2.mono hW.size)⟩
  by_cases h1 : E = 1
  · have hK : K = M + 1 := C4.1 h1
    subst h1
    have tK : ((K : Int) == (M : Int) + 1) = true := by rw [hK]; simp
    have tK2 : (K == M + 1) = true := by rw [hK]; simp
    clear C4 C5 C6 C3 C2 C1 hK
    go_wp2_with fail
    refine (fin w3 lo3).mono ?_
    rintro e w4 ⟨rfl, lo4⟩
    go_wp2_with fail
    go_ret
    exact ⟨rfl, lo4⟩
  · have hK : K ≠ M + 1 := fun h => h1 (C4.2 h)
    have tK : ((K : Int) == (M : Int) + 1) = false := by simp; omega
    have tK2 : (K == M + 1) = false := by simp; omega
    have tE : (E == 1) = false := by simpa using h1
    by_cases h6 : E = 6
    · have hN6 := C5 h6
      subst h6
      have tN : ((N : Int) == max 0 (min f 60)) = true := by simp; omega
      have tN' : ((N : Int) == max (min f 60) 0) = true := by simp; omega
      clear C4 C5 C6 C3 C2 C1 hK h1 tE hN6
      go_wp2_with fail
      refine (fin w3 lo3).mono ?_
      rintro e w4 ⟨rfl, lo4⟩
      go_wp2_with fail
      go_ret
      exact ⟨rfl, lo4⟩
    · have t6 : (E != 6) = true := by simpa using h6
      clear C4 C5 C6 C3 C2 C1 hK h1 h6
      go_wp2_with fail
      refine (fin w3 lo3).mono ?_
      rintro e w4 ⟨rfl, lo4⟩
      go_wp2_with fail
      go_ret
      exact ⟨rfl, lo4⟩
end Go.Proofs.Ytilphdfobflbiab
namespace Go.Proofs.Ytilphdfobflbiab.cpuCalls
open Go.ChangeShapes Go.WideShapes Go.ChangeAt Go.RowKit
set_option linter.unusedVariables false

theorem own : ownKnob Try.prog.godebug = none := by kernel_rfl

set_option maxRecDepth 100000 in
theorem lifted (os : Os) (started : os.Started) (H : Type) (enc : TypeId × Value → H) :
    ReturnsInHanded {} Try.checked os 4 .any (Rows.cpuCallsSpec.pre6 enc Try.prog Try.f4 Rows.cpuCallsRow.domain false) (Rows.cpuCallsSpec.post enc Try.prog Try.f4 false true false false) := by
  refine returnsInHanded_of_change_sized (C := Try.checked) own started (by kernel_rfl) Try.func4
    (ChangeSpec.witness6 (enc := enc) (C := Try.checked) false ⟨#[], #[.agg #[.int .u32 0, .int .u32 0, .int .u32 0, .int .u32 0, .int .u32 0, .int .u32 0, .int .u32 0, .int .u32 0, .int .u32 0, .int .u32 0, .int .u32 0, .int .u32 0, .int .u32 0, .int .u32 0, .int .u32 0, .int .u32 0, .int .u32 0, .int .u32 0, .int .u32 0, .int .u32 0, .int .u32 0, .int .u32 0, .int .u32 0, .int .u32 0, .int .u32 0, .int .u32 0, .int .u32 0, .int .u32 0, .int .u32 0, .int .u32 0, .int .u32 0, .int .u32 0, .int .u32 0, .int .u32 0, .int .u32 0, .string ⟨#[]⟩, .string ⟨#[]⟩, .slice none 0 0, .int .i64 0]], []⟩ 8 (by kernel_rfl) (by kernel_rfl) (by kernel_rfl) (by kernel_rfl)) ?_
  intro W base args ds gs before hval0 hW hcnd hsz0 _
  have hsz : (DataW.weightsEach Try.prog (Try.f4.params.toList ++ Rows.cpuCallsSpec.plain.varTypes Try.prog) (ds ++ gs)).all (· ≤ reachBytes) = true := hsz0
  clear hsz0
  have hval : ∀ (j : Nat) t v, Try.f4.params[j]? = some t → args[j]? = some v → Value.okWide Try.prog W .any base t v := hval0
  have hW' := hW
  obtain ⟨p, q, hA0, hV, rfl, hfz, hnd⟩ := hW
  have hA : DataW.TrodAll enc Try.prog W 0 (fun _ => true) true Try.f4.params.toList args.toList ds p := hA0
  rw [Try.params4] at hA hval hsz
  obtain ⟨v0, vs0, d0, ds0, p0, q0, hargs, rfl, rfl, h0, r0⟩ := trodAll_cons hA
  obtain ⟨rfl, rfl, rfl⟩ := trodAll_nil r0
  obtain rfl : args = #[v0] := by cases args; simp_all
  obtain ⟨rfl, rfl⟩ := trodVars_none hV
  have hlt : ∀ x ∈ p0, x.block < W.heap.size := fun x hx => by simpa using hW'.lt x (by simpa using hx)
  have k0 := h0
  have l0 : ∀ x ∈ p0, x.block < W.heap.size := fun x hx => hlt x (by simp [hx])
  obtain ⟨V0, hV0, rfl, hN0⟩ := open_world2 (hval 0 28 v0 rfl rfl) h0
  have hB0 : V0.zs.length ≤ 140737488351232 := by
    rcases hN0 with hN | ⟨m, hm, hle⟩
    · rw [hN]; simp
    · have := List.all_eq_true.1 hsz m (DataW.weights_mem_each (j := 0) rfl rfl m hm)
      have h7 : m ≤ reachBytes := of_decide_eq_true this
      unfold reachBytes at h7
      omega
  clear hA0 hval0
  refine (cpuCalls_walk V0 W hV0 hB0).mono fun e W' ⟨he, hg⟩ => ?_
  subst he
  exact ⟨_, rfl, _, _, _, [], _, [], hW', trodAll_mk1 (shut_bool Try.underlying4 _), (trodAll_cons_mk (Below.trod laidOut4 (by kernel_rfl) (of_decide_eq_true (by kernel_rfl)) k0 hg l0) trodAll_mk0), rfl, hg.frame _, fun h => by cases h⟩

theorem over : Rows.cpuCallsRow.holds Try.pinned (OpenSpec.ofChange Rows.cpuCallsSpec) :=
  OpenClaim.holds_of_wide 4 Try.f4 rfl rfl rfl rfl rfl rfl rfl ⟨rfl, rfl, rfl, rfl, rfl⟩ rfl rfl rfl rfl rfl (by kernel_rfl) Try.func4 (by kernel_rfl)
    (of_decide_eq_true (by kernel_rfl)) (by unfold Func.isWrapper; first | (rw [if_pos (by decide +kernel)]; kernel_rfl) | (rw [if_neg (by decide +kernel)]; exact ⟨rfl, rfl⟩))
    (fun os started H enc _ => lifted os started H enc)

theorem proved : Rows.CpuCallsSaid :=
  over
#print axioms proved
end Go.Proofs.Ytilphdfobflbiab.cpuCalls
