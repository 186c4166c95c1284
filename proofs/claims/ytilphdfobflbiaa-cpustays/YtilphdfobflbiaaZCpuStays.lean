/-
  CpuStays answers true of every scene: a machine, two addresses, two texts, answers, fuel. There are no conditions.
  The walk of CpuStays: it answers true of any scene.
-/
import Derived.Test.YtilphdfobflbiaaRows
import Derived.WalkKit
import Derived.ProofKit
import Derived.OpenShut
import Derived.Carry
import Derived.Test.YtilphdfobflbiaaZk
import Derived.Test.YtilphdfobflbiaaZx
namespace Go.Proofs.Ytilphdfobflbiaa
open Go.RowKit Go.Maps Cp Ip Mm
set_option linter.unusedSimpArgs false

/-- Behind the step: the machine then, the one that it is held against, the memory, the bytes as they were. -/
structure StaysAt (w : World) (gA gB : Nat) (cA cB : Mach) (pb bm : Nat) (l' : Cs) (B : Nat) (v : Value) (l : Cs) (W : World) : Prop where
  a : BoxC W gA cA
  b : BoxC W gB cB
  mem : MemAt W pb bm l'
  own : W.ownsRow B 75 2 v l.length (cellsOf l)
  low : Below w.heap.size w W
section
variable {w W W' : World} {gA gB : Nat} {cA cB : Mach} {pb bm : Nat} {l' : Cs} {B : Nat} {v : Value} {l : Cs}
theorem StaysAt.below (h : StaysAt w gA gB cA cB pb bm l' B v l W) (hb : Below W.heap.size W W') : StaysAt w gA gB cA cB pb bm l' B v l W' :=
  ⟨h.a.below hb, h.b.below hb, h.mem.below hb, own_below h.own hb, h.low.trans (hb.mono h.low.size)⟩
theorem StaysAt.drew (h : StaysAt w gA gB cA cB pb bm l' B v l W) : StaysAt w gA gB cA cB pb bm l' B v l W.drew := h.below (drewN_low W 1 _)
theorem own_apart {v : Value} {n g : Nat} (h : ∀ j, v.ownBlock = some j → j < n) (hg : n ≤ g) : v.ownBlock = none ∨ v.ownBlock ≠ some g := by
  cases e : v.ownBlock with
  | none => exact .inl rfl
  | some j => exact .inr (by have := h j e; simp; omega)
end

set_option maxRecDepth 100000 in
set_option maxHeartbeats 8000000 in
theorem cpuStays_walk (V : Scene) (w : World) (hV : SceneOk w V) : Calls Try.prog 5 #[.agg (wcells V)] w fun e w' => e = .returned (.bool true) ∧ Below w.heap.size w w' := by
  have hz := zeroC
  have he := eqlC
  have sc0 := SceneAt.new w V
  have lo0 : Below w.heap.size w (w.alloc (.cells (wcells V) 34)) := (Below.refl _ _).alloc (Nat.le_refl _) _
  have hV0 := hV.below lo0
  go_enter Try.func5, Try.ntmps5
  go_upto_region 1 with fail
  generalize hw0 : w.alloc (.cells (wcells V) 34) = w0 at sc0 lo0 hV0 ⊢
  have hz0 : w0.heap.size = w.heap.size + 1 := by rw [← hw0]; simp
  clear hw0
  go_wp2_with (first | (refine wpList_load_row rfl 34 _ rfl w.heap.size rfl _ _ _ _ sc0 Try.underlying34 rfl (infoW _) ?_))
  refine (laid_any V w0 hV0).mono ?_
  rintro e w1 ⟨pb, bm, kb, rfl, m1, _, hp1, hb1, l1⟩
  have s1 := sc0.below l1
  have lo1 := lo0.trans (l1.mono lo0.size)
  have hz1 := l1.size
  have hbm1 := m1.lt'
  have hpm1 := m1.lt
  clear sc0 lo0 l1 hV0
  generalize laidL V = l at m1
  go_wp2_with fail
  refine (cells_any w1 m1).mono ?_
  rintro e w2 ⟨v, rfl, o2, l2⟩
  have m2 := m1.below l2
  have s2 := s1.below l2
  have lo2 := lo1.trans (l2.mono lo1.size)
  have hz2 := l2.size
  have hlen := m1.rise.length
  clear m1 s1 lo1 l2
  go_wp2_with (first | (refine wpList_load_cpu (by rfl) _ rfl w.heap.size rfl V s2 ?_))
  refine (step_any V.c w2 m2).mono ?_
  rintro e w3 ⟨rfl, m3, g3⟩
  have L := step_leaves V.c l
  have s3 := s2.grown g3 (by omega)
  have lo3 := below_grown lo2 g3 (by omega) lo2.size
  have o3 := own_kept o2 g3 (by omega)
  have hown : ∀ j, v.ownBlock = some j → j < w2.heap.size := fun j e => (o2.lt j e).2
  have hz3 := g3.size
  clear m2 s2 lo2 o2 g3
  generalize stepM V.c l = o at m3 L ⊢
  obtain ⟨c1, e1, l1⟩ := o
  dsimp only at m3 ⊢
  -- the machine behind the step
  obtain ⟨n4, a4⟩ := box_new2 w3 c1
  have m4 := m3.below n4
  have s4 := s3.below n4
  have lo4 := lo3.trans (n4.mono lo3.size)
  have o4 := own_below o3 n4
  clear m3 s3 lo3 o3
  go_upto_region 6 with (first | (refine wpList_store_row rfl 25 _ _ rfl w3.heap.size _ rfl rfl _ _ (told_box w3) (infoCs _) (cells_same _ _) (cells_one _) ?_))
  generalize hw4 : (w3.alloc (.cells (cells nought) 25)).setRow w3.heap.size (cells c1) = w4 at n4 a4 m4 s4 lo4 o4 ⊢
  have hz4 := n4.size
  clear hw4 n4
  -- the one that it is held against
  obtain ⟨n5, b5⟩ := box_new2 w4 V.c
  have m5 := m4.below n5
  have a5 := a4.below n5
  have lo5 := lo4.trans (n5.mono lo4.size)
  have o5 := own_below o4 n5
  have hlt := a4.lt
  clear m4 a4 lo4 o4
  go_upto_region 7 with (first | (refine wpList_load_cpu (by rfl) _ rfl w.heap.size rfl V s4 ?_) | (refine wpList_store_row rfl 25 _ _ rfl w4.heap.size _ rfl rfl _ _ (told_box w4) (infoCs _) (cells_same _ _) (cells_one _) ?_))
  generalize hw5 : (w4.alloc (.cells (cells nought) 25)).setRow w4.heap.size (cells V.c) = w5 at n5 b5 m5 a5 lo5 o5 ⊢
  have hz5 := n5.size
  clear hw5 n5 s4
  have q0 := b5.reg 0 (by omega)
  have f0 := b5.free 0
  have A6 : StaysAt w w3.heap.size w4.heap.size c1 (zr V.c) pb bm l1 w1.heap.size v l (w5.setCell ⟨w4.heap.size, 0, none⟩ (.int .u32 0)) := by
    have lo : Below w4.heap.size w5 (w5.setCell ⟨w4.heap.size, 0, none⟩ (.int .u32 0)) := below_cell1 (Below.refl _ _) (Nat.le_refl _) _ _
    exact ⟨a5.other _ _ (by simp; omega), b5.setx 0 (by omega) (BitVec.ofNat 32 0), m5.low lo (by omega) (by omega), o5.kept (grown_setCell _ _ _ _) (own_apart hown (by omega)), lo5.trans (lo.mono (by omega))⟩
  go_upto_region 8 with fail
  generalize w5.setCell ⟨w4.heap.size, 0, none⟩ (.int .u32 0) = w6 at A6 ⊢
  clear a5 b5 m5 o5 lo5 q0 f0
  by_cases h0 : e1 = 0
  · subst h0
    obtain ⟨r, hr, hl⟩ := L.on rfl
    have hn := L.nought
    clear L
    dsimp only at hr hl hn
    go_wp2_with fail
    go_loopw [9, 10] (fun u i W => ∃ k : Nat, k ≤ 32 ∧ i = .int .i64 k ∧ u = .int .i64 (diff c1 (zr V.c) k : Int) ∧ StaysAt w w3.heap.size w4.heap.size c1 (zr V.c) pb bm l1 w1.heap.size v l W) (fun _ i _ => 32 - (intOf i).toNat)
    case atStart => exact ⟨0, by omega, rfl, rfl, A6⟩
    case round =>
      obtain ⟨k, hk, rfl, rfl, A⟩ := hrel
      clear A6
      by_cases hlt : k < 32
      · have hkI : (k : Int) < 32 := by omega
        have hdl := diff_le c1 (zr V.c) k
        obtain ⟨D, hD, hD2⟩ : ∃ D : Nat, D = diff c1 (zr V.c) k ∧ D ≤ k := ⟨_, rfl, hdl⟩
        rw [← hD]
        have HD := hideC hD
        clear hD hdl
        go_wp2_with fail
        refine wp_region_noPanic ?_
        refine wp_region_held_drew (S := StaysAt w w3.heap.size w4.heap.size c1 (zr V.c) pb bm l1 w1.heap.size v l) (by kernel_rfl) A.drew (fun s0 => ?_)
        refine wpAnyH_takeAt (i := 0) (v := ?_) rfl (by kernel_rfl) (by kernel_rfl) (by kernel_rfl) (fun _ _ _ h => h) (Or.inl ⟨by rfl, ?_⟩) s0 ?_
        rotate_left 1
        · intro w' hS; have ra := hS.a.reg k hlt; have rb := hS.b.reg k hlt; clear hS
          go_simp <;> with_reducible rfl
        try simp only [Act.put, List.setIfInBounds_toArray, List.set_cons_zero, List.set_cons_succ]
        refine wpAnyH_takeAt (i := 1) (v := ?_) rfl (by kernel_rfl) (by kernel_rfl) (by kernel_rfl) (fun _ _ _ h => h) (Or.inl ⟨by rfl, ?_⟩) s0 ?_
        rotate_left 1
        · intro w' hS; have ra := hS.a.reg k hlt; have rb := hS.b.reg k hlt; clear hS
          go_simp <;> with_reducible rfl
        try simp only [Act.put, List.setIfInBounds_toArray, List.set_cons_zero, List.set_cons_succ]
        refine wpAnyH_takeAt (i := 2) (v := ?_) rfl (by kernel_rfl) (by kernel_rfl) (by kernel_rfl) (fun _ _ _ h => h) (Or.inl ⟨by rfl, ?_⟩) s0 ?_
        rotate_left 1
        · intro w' hS; have ra := hS.a.reg k hlt; have rb := hS.b.reg k hlt; clear hS
          go_simp <;> with_reducible rfl
        try simp only [Act.put, List.setIfInBounds_toArray, List.set_cons_zero, List.set_cons_succ]
        refine wpAnyH_takeAt (i := 3) (v := ?_) rfl (by kernel_rfl) (by kernel_rfl) (by kernel_rfl) (fun _ _ _ h => h) (Or.inl ⟨by rfl, ?_⟩) s0 ?_
        rotate_left 1
        · intro w' hS; have ra := hS.a.reg k hlt; have rb := hS.b.reg k hlt; clear hS
          go_simp <;> with_reducible rfl
        try simp only [Act.put, List.setIfInBounds_toArray, List.set_cons_zero, List.set_cons_succ]
        refine wpAnyH_takeAt (i := 4) (v := ?_) rfl (by kernel_rfl) (by kernel_rfl) (by kernel_rfl) (fun _ _ _ h => h) (Or.inl ⟨by rfl, ?_⟩) s0 ?_
        rotate_left 1
        · intro w' hS; have ra := hS.a.reg k hlt; have rb := hS.b.reg k hlt; clear hS
          go_simp <;> with_reducible rfl
        try simp only [Act.put, List.setIfInBounds_toArray, List.set_cons_zero, List.set_cons_succ]
        refine wpAnyH_takeAt (i := 5) (v := ?_) rfl (by kernel_rfl) (by kernel_rfl) (by kernel_rfl) (fun _ _ _ h => h) (Or.inl ⟨by rfl, ?_⟩) s0 ?_
        rotate_left 1
        · intro w' hS; have ra := hS.a.reg k hlt; have rb := hS.b.reg k hlt; clear hS
          go_simp <;> with_reducible rfl
        try simp only [Act.put, List.setIfInBounds_toArray, List.set_cons_zero, List.set_cons_succ]
        refine wpAnyH_takeAt (i := 6) (v := ?_) rfl (by kernel_rfl) (by kernel_rfl) (by kernel_rfl) (fun _ _ _ h => h) (Or.inl ⟨by rfl, ?_⟩) s0 ?_
        rotate_left 1
        · intro w' hS; have ra := hS.a.reg k hlt; have rb := hS.b.reg k hlt; clear hS
          go_simp <;> with_reducible rfl
        try simp only [Act.put, List.setIfInBounds_toArray, List.set_cons_zero, List.set_cons_succ]
        refine wpAnyH_takeAt (i := 7) (v := ?_) rfl (by kernel_rfl) (by kernel_rfl) (by kernel_rfl) (fun _ _ _ h => h) (Or.inl ⟨by rfl, ?_⟩) s0 ?_
        rotate_left 1
        · intro w' hS; have ra := hS.a.reg k hlt; have rb := hS.b.reg k hlt; clear hS
          go_simp <;> with_reducible rfl
        try simp only [Act.put, List.setIfInBounds_toArray, List.set_cons_zero, List.set_cons_succ]
        refine wpAnyH_takeAt (i := 8) (v := ?_) rfl (by kernel_rfl) (by kernel_rfl) (by kernel_rfl) (fun _ _ _ h => h) (Or.inl ⟨by rfl, ?_⟩) s0 ?_
        rotate_left 1
        · intro w' hS; have ra := hS.a.reg k hlt; have rb := hS.b.reg k hlt; clear hS
          go_simp <;> with_reducible rfl
        try simp only [Act.put, List.setIfInBounds_toArray, List.set_cons_zero, List.set_cons_succ]
        refine wpAnyH_done (by kernel_rfl) ?_ _
        refine NoPanic.normal ?_
        by_cases hx : c1.x k = (zr V.c).x k
        · have hb : (((c1.x k).toNat : Int) != (((zr V.c).x k).toNat : Int)) = false := by rw [hx]; simp
          go_wp2_with fail
          exact ⟨⟨k + 1, by omega, by go_num, by rw [HD.out]; simp [diff, hx], s0⟩, by simp [intOf]; omega⟩
        · have hb : (((c1.x k).toNat : Int) != (((zr V.c).x k).toNat : Int)) = true := by
            rw [bne_nat]; simpa using hx
          go_wp2_with fail
          exact ⟨⟨k + 1, by omega, by go_num, by rw [HD.out]; simp [diff, hx], s0⟩, by simp [intOf]; omega⟩
      · obtain rfl : k = 32 := by omega
        have h1 := (diff_one hr 32).1
        have q0 : wr.cell? ⟨w3.heap.size, 0, none⟩ = some (.int .u32 0) := by have := A.a.reg 0 (by omega); rw [hn] at this; exact this
        generalize hD : diff c1 (zr V.c) 32 = D at h1 ⊢
        obtain rfl | rfl : D = 0 ∨ D = 1 := by omega
        · clear hD
          go_wp2_with fail
          refine (fixed4_any _).mono ?_
          rintro e w9 ⟨rfl, l9⟩
          have A9 := A.below l9
          clear A l9
          go_wp2_with fail
          go_ret
          exact ⟨rfl, A9.low⟩
        · have hl1 : l1 = l := by
            rcases hl with hl | hl
            · exact hl
            · exfalso
              rw [diff_same (fun i => by by_cases hi : i = r; · rw [hi]; exact hl
                                         · exact hr i hi) 32] at hD
              cases hD
          subst hl1
          clear hD hl hr
          go_wp2_with fail
          refine (cells_any wr A.mem).mono ?_
          rintro e w7 ⟨u, rfl, o7, l7⟩
          have A7 := A.below l7
          clear A l7
          go_wp2_with fail
          refine (same_yes w7 o7 A7.own hlen).mono ?_
          rintro e w8 ⟨rfl, n, rfl⟩
          have A8 := A7.below (drewN_low w7 n _)
          clear A7 o7
          go_wp2_with fail
          refine (fixed4_any _).mono ?_
          rintro e w9 ⟨rfl, l9⟩
          have A9 := A8.below l9
          clear A8 l9
          go_wp2_with fail
          go_ret
          exact ⟨rfl, A9.low⟩
  by_cases h1 : e1 = 1
  · subst h1
    obtain ⟨hc, hl⟩ := L.calls rfl
    dsimp only at hc hl
    subst hc hl
    clear L
    obtain ⟨Q, hE, HQ⟩ := four V.c.pc
    rw [← HQ.out] at A6
    have qB : w6.cell? ⟨w4.heap.size, 32, none⟩ = some (.int .u32 (V.c.pc.toNat : Int)) := A6.b.at
    have fB := A6.b.free 32
    have A7 : StaysAt w w3.heap.size w4.heap.size (sp (zr V.c) Q) (sp (zr V.c) Q) pb bm l1 w1.heap.size v l1 (w6.setCell ⟨w4.heap.size, 32, none⟩ (.int .u32 (Q.toNat : Int))) := by
      have lo : Below w4.heap.size w6 (w6.setCell ⟨w4.heap.size, 32, none⟩ (.int .u32 (Q.toNat : Int))) := below_cell1 (Below.refl _ _) (Nat.le_refl _) _ _
      exact ⟨A6.a.other _ _ (by simp; omega), A6.b.setp Q, A6.mem.low lo (by omega) (by omega), A6.own.kept (grown_setCell _ _ _ _) (own_apart hown (by omega)), A6.low.trans (lo.mono (by omega))⟩
    go_upto_region 12 with fail
    generalize w6.setCell ⟨w4.heap.size, 32, none⟩ (.int .u32 (Q.toNat : Int)) = w7 at A7 ⊢
    clear A6 qB fB
    go_wp2_with (first | (refine wpList_load_rowG (by rfl) 25 _ rfl w3.heap.size rfl _ _ _ _ A7.a Try.underlying25 rfl (infoCs _) ?_) | (refine wpList_load_rowG (by rfl) 25 _ rfl w4.heap.size rfl _ _ _ _ A7.b Try.underlying25 rfl (infoCs _) ?_))
    refine (cells_any w7 A7.mem).mono ?_
    rintro e w8 ⟨u, rfl, o8, l8⟩
    have A8 := A7.below l8
    clear A7 l8
    go_wp2_with fail
    refine (same_yes w8 o8 A8.own hlen).mono ?_
    rintro e w9 ⟨rfl, n, rfl⟩
    have A9 := A8.below (drewN_low w8 n _)
    clear A8 o8
    go_wp2_with fail
    refine (fixed4_any _).mono ?_
    rintro e w10 ⟨rfl, l10⟩
    have A10 := A9.below l10
    clear A9 l10
    go_wp2_with fail
    go_ret
    exact ⟨rfl, A10.low⟩
  · obtain ⟨hc, hl⟩ := L.ends h0 h1
    dsimp only at hc hl
    subst hc hl
    clear L
    have t0 : (e1 != 0) = true := by simpa using h0
    have t1 : (e1 != 1) = true := by simpa using h1
    go_wp2_with (first | (refine wpList_load_rowG (by rfl) 25 _ rfl w3.heap.size rfl _ _ _ _ A6.a Try.underlying25 rfl (infoCs _) ?_) | (refine wpList_load_rowG (by rfl) 25 _ rfl w4.heap.size rfl _ _ _ _ A6.b Try.underlying25 rfl (infoCs _) ?_))
    refine (cells_any w6 A6.mem).mono ?_
    rintro e w7 ⟨u, rfl, o7, l7⟩
    have A7 := A6.below l7
    clear A6 l7
    go_wp2_with fail
    refine (same_yes w7 o7 A7.own hlen).mono ?_
    rintro e w8 ⟨rfl, n, rfl⟩
    have A8 := A7.below (drewN_low w7 n _)
    clear A7 o7
    go_wp2_with fail
    refine (fixed4_any _).mono ?_
    rintro e w9 ⟨rfl, l9⟩
    have A9 := A8.below l9
    clear A8 l9
    go_wp2_with fail
    go_ret
    exact ⟨rfl, A9.low⟩
end Go.Proofs.Ytilphdfobflbiaa
namespace Go.Proofs.Ytilphdfobflbiaa.cpuStays
open Go.ChangeShapes Go.WideShapes Go.ChangeAt Go.RowKit
set_option linter.unusedVariables false

theorem own : ownKnob Try.prog.godebug = none := by kernel_rfl

set_option maxRecDepth 100000 in
theorem lifted (os : Os) (started : os.Started) (H : Type) (enc : TypeId × Value → H) :
    ReturnsInHanded {} Try.checked os 5 .any (Rows.cpuStaysSpec.pre6 enc Try.prog Try.f5 Rows.cpuStaysRow.domain false) (Rows.cpuStaysSpec.post enc Try.prog Try.f5 false true false false) := by
  refine returnsInHanded_of_change (C := Try.checked) own started (by kernel_rfl) Try.func5
    (ChangeSpec.witness6 (enc := enc) (C := Try.checked) false ⟨#[], #[.agg #[.int .u32 0, .int .u32 0, .int .u32 0, .int .u32 0, .int .u32 0, .int .u32 0, .int .u32 0, .int .u32 0, .int .u32 0, .int .u32 0, .int .u32 0, .int .u32 0, .int .u32 0, .int .u32 0, .int .u32 0, .int .u32 0, .int .u32 0, .int .u32 0, .int .u32 0, .int .u32 0, .int .u32 0, .int .u32 0, .int .u32 0, .int .u32 0, .int .u32 0, .int .u32 0, .int .u32 0, .int .u32 0, .int .u32 0, .int .u32 0, .int .u32 0, .int .u32 0, .int .u32 0, .int .u32 0, .int .u32 0, .string ⟨#[]⟩, .string ⟨#[]⟩, .slice none 0 0, .int .i64 0]], []⟩ 8 (by kernel_rfl) (by kernel_rfl) (by kernel_rfl) (by kernel_rfl)) ?_
  intro W base args ds gs before hval0 hW hcnd _
  have hval : ∀ (j : Nat) t v, Try.f5.params[j]? = some t → args[j]? = some v → Value.okWide Try.prog W .any base t v := hval0
  have hW' := hW
  obtain ⟨p, q, hA0, hV, rfl, hfz, hnd⟩ := hW
  have hA : DataW.TrodAll enc Try.prog W 0 (fun _ => true) true Try.f5.params.toList args.toList ds p := hA0
  rw [Try.params5] at hA hval
  obtain ⟨v0, vs0, d0, ds0, p0, q0, hargs, rfl, rfl, h0, r0⟩ := trodAll_cons hA
  obtain ⟨rfl, rfl, rfl⟩ := trodAll_nil r0
  obtain rfl : args = #[v0] := by cases args; simp_all
  obtain ⟨rfl, rfl⟩ := trodVars_none hV
  have hlt : ∀ x ∈ p0, x.block < W.heap.size := fun x hx => by simpa using hW'.lt x (by simpa using hx)
  have k0 := h0
  have l0 : ∀ x ∈ p0, x.block < W.heap.size := fun x hx => hlt x (by simp [hx])
  obtain ⟨V0, hV0, rfl⟩ := open_world (hval 0 34 v0 rfl rfl) h0
  clear hA0 hval0
  refine (cpuStays_walk V0 W hV0).mono fun e W' ⟨he, hg⟩ => ?_
  subst he
  exact ⟨_, rfl, _, _, _, [], _, [], hW', trodAll_mk1 (shut_bool Try.underlying4 _), (trodAll_cons_mk (Below.trod laidOut4 (by kernel_rfl) (of_decide_eq_true (by kernel_rfl)) k0 hg l0) trodAll_mk0), rfl, hg.frame _, fun h => by cases h⟩

theorem over : Rows.cpuStaysRow.holds Try.pinned (OpenSpec.ofChange Rows.cpuStaysSpec) :=
  OpenClaim.holds_of_wide 5 Try.f5 rfl rfl rfl rfl rfl rfl rfl ⟨rfl, rfl, rfl, rfl, rfl⟩ rfl rfl rfl rfl rfl (by kernel_rfl) Try.func5 (by kernel_rfl)
    (of_decide_eq_true (by kernel_rfl)) (by unfold Func.isWrapper; first | (rw [if_pos (by decide +kernel)]; kernel_rfl) | (rw [if_neg (by decide +kernel)]; exact ⟨rfl, rfl⟩))
    (fun os started H enc _ => lifted os started H enc)

theorem proved : Rows.CpuStaysSaid :=
  over
#print axioms proved
end Go.Proofs.Ytilphdfobflbiaa.cpuStays
