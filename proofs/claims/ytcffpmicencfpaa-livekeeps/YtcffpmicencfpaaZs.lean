/-
  The document's plain instructions: set and Does.
  The document's plain instructions: Does.
-/

import Derived.Test.YtcffpmicencfpaaZk
import Derived.Test.YtcffpmicencfpaaZq
import Derived.Test.YtcffpmicencfpaaZr
namespace Go.Proofs.Ytcffpmicencfpaa
open Go.RowKit Cp Ip
set_option linter.unusedSimpArgs false

theorem two_boxes (w : World) (c : Mach) : BoxC ((w.alloc (.cells (cells c) 32)).alloc (.cells (cells nought) 32)) w.heap.size c ∧ BoxC ((w.alloc (.cells (cells c) 32)).alloc (.cells (cells nought) 32)) (w.heap.size + 1) nought ∧ Below w.heap.size w ((w.alloc (.cells (cells c) 32)).alloc (.cells (cells nought) 32)) := by
  refine ⟨(Box.new w c).alloc _, ?_, ((Below.refl _ _).alloc (Nat.le_refl _) _).alloc (by simp) _⟩
  have := Box.new (t := 32) (w.alloc (.cells (cells c) 32)) nought
  simpa using this
set_option maxHeartbeats 1000000 in
theorem rset4_any (c : Mach) (rd : Int) (h0 : 0 ≤ rd) (h1 : rd < 32) (v : BitVec 32) (w : World) :
    Calls Try.prog 23 #[.agg (cells c), .int .i64 rd, .int .u32 (v.toNat : Int)] w fun e w' => e = .returned (.agg (cells (onw c rd v))) ∧ Below w.heap.size w w' := by
  have hz := zeroC
  obtain ⟨Q, hE, HQ⟩ := fourC c.pc
  by_cases hr : rd = 0
  · subst hr
    have hp := cells_pc c
    have hcp := cells_sp c Q
    obtain ⟨b1, b2, lw⟩ := two_boxes w (sp c Q)
    go_enter Try.func23, Try.ntmps23
    go_wp2_with (first
      | (refine wpList_load_row rfl 32 _ rfl w.heap.size rfl _ _ _ _ b1 Try.underlying32 rfl (infoCs _) ?_)
      | (refine wpList_store_row rfl 32 _ _ rfl (w.heap.size + 1) _ rfl rfl _ _ b2 (infoCs _) (cells_same _ _) (cells_one _) ?_))
    have e9 : sp c Q = onw c 0 v := by rw [HQ.out]; rfl
    rw [e9] at b1 b2 lw ⊢
    exact bodyPost_ret (v := .agg (cells (onw c 0 v))) (results_cell_row (p := 6) (by kernel_rfl) _ _ (w.heap.size + 1) _ _ _ _ rfl (b2.setRow _) Try.underlying32 rfl (infoCs _)) rfl
      ⟨rfl, below_row lw (by omega) _⟩
  · obtain ⟨k, rfl⟩ := Int.eq_ofNat_of_zero_le h0
    have hk : k < 32 := by omega
    have hk0 : (0 : Int) < k := by omega
    have hc := cells_x c k hk
    have hcx := cells_sx c k hk v
    have hp : (cells (sx c k v))[32]? = some (.int .u32 (c.pc.toNat : Int)) := cells_pc (sx c k v)
    have hcp := cells_sp (sx c k v) Q
    obtain ⟨b1, b2, lw⟩ := two_boxes w (sp (sx c k v) Q)
    have e9 : sp (sx c k v) Q = onw c k v := by
      rw [HQ.out]; unfold onw put; rw [if_neg (by omega)]; rfl
    have H9 : Hid (sp (sx c k v) Q = onw c k v) := e9
    clear e9
    go_enter Try.func23, Try.ntmps23
    go_wp2_with (first
      | (refine wpList_load_row rfl 32 _ rfl w.heap.size rfl _ _ _ _ b1 Try.underlying32 rfl (infoCs _) ?_)
      | (refine wpList_store_row rfl 32 _ _ rfl (w.heap.size + 1) _ rfl rfl _ _ b2 (infoCs _) (cells_same _ _) (cells_one _) ?_))
    rw [H9.out] at b1 b2 lw ⊢
    exact bodyPost_ret (v := .agg (cells (onw c k v))) (results_cell_row (p := 6) (by kernel_rfl) _ _ (w.heap.size + 1) _ _ _ _ rfl (b2.setRow _) Try.underlying32 rfl (infoCs _)) rfl
      ⟨rfl, below_row lw (by omega) _⟩
end Go.Proofs.Ytcffpmicencfpaa
namespace Go.Proofs.Ytcffpmicencfpaa
open Go.RowKit Cp Ip
set_option linter.unusedSimpArgs false

theorem up12 (imm : Int) : ∃ U : BitVec 32, imm % 4294967296 * 4096 % 4294967296 = (U.toNat : Int) ∧ Hid (U = numb imm <<< 12) := by
  refine ⟨numb imm <<< 12, ?_, rfl⟩
  rw [numb_cut imm, BitVec.toNat_shiftLeft, Nat.shiftLeft_eq, Int.natCast_emod, Int.natCast_mul]
  rfl
theorem up_add (p u : BitVec 32) : ∃ V : BitVec 32, ((p.toNat : Int) + (u.toNat : Int)) % 4294967296 = (V.toNat : Int) ∧ Hid (V = p + u) := ⟨p + u, Wd.add_ p u, rfl⟩
theorem hideC4 {p : Prop} (h : p) : Hid p := h
theorem does_yes {c : Mach} {op rd rs1 rs2 imm : Int} (hr : right op rd rs1 rs2 imm = true) (hp : isPlain op = true) {v : BitVec 32} (hv : v = reckV (zr c) op rs1 rs2 imm) : doesM c op rd rs1 rs2 imm = onw (zr c) rd v ∧ doesB op rd rs1 rs2 imm = true := by
  have e : doesB op rd rs1 rs2 imm = true := by unfold doesB; rw [hr, hp]; rfl
  refine ⟨?_, e⟩
  unfold doesM; rw [if_pos e, hv]
theorem does_not {c : Mach} {op rd rs1 rs2 imm : Int} (h : right op rd rs1 rs2 imm = false ∨ isPlain op = false) : doesM c op rd rs1 rs2 imm = zr c ∧ doesB op rd rs1 rs2 imm = false := by
  have e : doesB op rd rs1 rs2 imm = false := by
    unfold doesB
    rcases h with h | h <;> rw [h] <;> simp
  refine ⟨?_, e⟩
  unfold doesM; rw [if_neg (by simp [e])]
theorem err_in (op : Int) (h : 27 ≤ op ∧ op ≤ 44) : Wd.err op = 0 := by unfold Wd.err Wd.known; rw [if_pos (by simpa using h)]
theorem err_out (op : Int) (h : ¬ (27 ≤ op ∧ op ≤ 44)) : Wd.err op = 1 := by unfold Wd.err Wd.known; rw [if_neg (by simpa using h)]
theorem plainV_in (op : Int) (h : 18 ≤ op ∧ op ≤ 26) : 27 ≤ plainV op ∧ plainV op ≤ 44 := by
  have : op = 18 ∨ op = 19 ∨ op = 20 ∨ op = 21 ∨ op = 22 ∨ op = 23 ∨ op = 24 ∨ op = 25 ∨ op = 26 := by omega
  rcases this with rfl | rfl | rfl | rfl | rfl | rfl | rfl | rfl | rfl <;> decide

set_option maxRecDepth 100000 in
set_option maxHeartbeats 4000000 in
theorem rdoes_any4 (c : Mach) (op rd rs1 rs2 imm : Int) (w : World) :
    Calls Try.prog 14 #[.agg (cells c), .agg #[.int .i64 op, .int .i64 rd, .int .i64 rs1, .int .i64 rs2, .int .i64 imm]] w fun e w' => e = .returned (.tuple #[.agg (cells (doesM c op rd rs1 rs2 imm)), .bool (doesB op rd rs1 rs2 imm)]) ∧ Below w.heap.size w w' := by
  have hz := zeroC
  have hc0 : ((cells c)[0]?) = some (.int .u32 ((c.x 0).toNat : Int)) := cells_x c 0 (by omega)
  have hcs := cells_size c
  have hcz := cells_zr c
  go_enter Try.func14, Try.ntmps14
  go_wp2_with fail
  refine (rright_any op rd rs1 rs2 imm _).mono ?_
  rintro e w1 ⟨rfl, hb1⟩
  have D1 := (doesAt_start w (zr c) op rd rs1 rs2 imm).below hb1
  clear hb1 hc0 hcs hcz
  obtain ⟨x0, x1, x2, x3, x4, x5⟩ := D1.ins
  cases hr : right op rd rs1 rs2 imm with
  | false =>
    have HY := hideC4 (does_not (c := c) (op := op) (rd := rd) (rs1 := rs1) (rs2 := rs2) (imm := imm) (.inl hr))
    clear hr
    go_wp2_with (first
      | (refine wpList_load_row rfl 32 _ rfl w.heap.size rfl _ _ _ _ D1.box Try.underlying32 rfl (infoCs _) ?_)
      | (refine wpList_store_row rfl 32 _ _ rfl (w.heap.size + 2) _ rfl rfl _ _ D1.res (infoCs _) (cells_same _ _) (cells_one _) ?_))
    rw [HY.out.1, HY.out.2]
    exact bodyPost_ret (results_row_tmpC (p := 4) (u := 5) (by kernel_rfl) _ _ (w.heap.size + 2) _ _ _ _ rfl (D1.res.setRow _) Try.underlying32 rfl (infoCs _)) rfl ⟨rfl, below_row D1.low (by omega) _⟩
  | true =>
    have hf := fine_of hr
    obtain ⟨U, hU, HU⟩ := up12 imm
    by_cases h0 : op = 0
    · subst h0
      have HY := hideC4 (does_yes (c := c) hr (by decide) (v := U) (by rw [HU.out]; unfold reckV; simp))
      clear hr
      go_wp2_with (first
        | (refine wpList_load_row rfl 32 _ rfl w.heap.size rfl _ _ _ _ D1.box Try.underlying32 rfl (infoCs _) ?_))
      refine (rset4_any (zr c) rd hf.rd0 hf.rd1 U _).mono ?_
      rintro e w3 ⟨rfl, hb3⟩
      have D3 := D1.below hb3
      clear hb3 x0 x1 x2 x3 x4 x5
      go_wp2_with (first
        | (refine wpList_store_row rfl 32 _ _ rfl (w.heap.size + 2) _ rfl rfl _ _ D3.res (infoCs _) (cells_same _ _) (cells_one _) ?_))
      rw [HY.out.1, HY.out.2]
      exact bodyPost_ret (results_row_tmpC (p := 4) (u := 5) (by kernel_rfl) _ _ (w.heap.size + 2) _ _ _ _ rfl (D3.res.setRow _) Try.underlying32 rfl (infoCs _)) rfl ⟨rfl, below_row D3.low (by omega) _⟩
    by_cases h1 : op = 1
    · subst h1
      obtain ⟨V, hV, HV⟩ := up_add c.pc U
      have hpc : w1.cell? ⟨w.heap.size, 32, none⟩ = some (.int .u32 (c.pc.toNat : Int)) := D1.box.at
      have HY := hideC4 (does_yes (c := c) hr (by decide) (v := V) (by rw [HV.out, HU.out]; unfold reckV; rw [if_neg (by decide), if_pos rfl]; exact BitVec.add_comm _ _))
      clear hr
      go_wp2_with (first
        | (refine wpList_load_row rfl 32 _ rfl w.heap.size rfl _ _ _ _ D1.box Try.underlying32 rfl (infoCs _) ?_))
      refine (rset4_any (zr c) rd hf.rd0 hf.rd1 V _).mono ?_
      rintro e w3 ⟨rfl, hb3⟩
      have D3 := D1.below hb3
      clear hb3 x0 x1 x2 x3 x4 x5
      go_wp2_with (first
        | (refine wpList_store_row rfl 32 _ _ rfl (w.heap.size + 2) _ rfl rfl _ _ D3.res (infoCs _) (cells_same _ _) (cells_one _) ?_))
      rw [HY.out.1, HY.out.2]
      exact bodyPost_ret (results_row_tmpC (p := 4) (u := 5) (by kernel_rfl) _ _ (w.heap.size + 2) _ _ _ _ rfl (D3.res.setRow _) Try.underlying32 rfl (infoCs _)) rfl ⟨rfl, below_row D3.low (by omega) _⟩
    have h0b : (op == 0) = false := by simpa using h0
    have h1b : (op == 1) = false := by simpa using h1
    obtain ⟨hrd0, hrd1⟩ : 0 ≤ rd ∧ rd < 32 := ⟨hf.rd0, hf.rd1⟩
    obtain ⟨i, ei⟩ := Int.eq_ofNat_of_zero_le hf.a0
    obtain ⟨j, ej⟩ := Int.eq_ofNat_of_zero_le hf.b0
    have hi : i < 32 := by have := hf.a1; omega
    have hj : j < 32 := by have := hf.b1; omega
    subst ei ej
    clear hf
    have hiI : (i : Int) < 32 := by omega
    have hjI : (j : Int) < 32 := by omega
    go_wp2_with fail
    have D1 : DoesAt w (zr c) nought op rd i j imm w1.drew := D1.below (drewN_low w1 1 _)
    refine wp_region_noPanic ?_
    refine wp_region_held_drew (S := DoesAt w (zr c) nought op rd i j imm) (by kernel_rfl) D1 (fun s0 => ?_)
    refine wpAnyH_takeAt (i := 0) (v := ?_) rfl (by kernel_rfl) (by kernel_rfl) (by kernel_rfl) (fun _ _ _ h => h) (Or.inl ⟨by rfl, ?_⟩) s0 ?_
    rotate_left 1
    · intro w' hS; obtain ⟨x0, x1, x2, x3, x4, x5⟩ := hS.ins; have r2 := hS.box.reg j hj; clear hS
      go_simp <;> with_reducible rfl
    try simp only [Act.put, List.setIfInBounds_toArray, List.set_cons_zero, List.set_cons_succ]
    refine wpAnyH_takeAt (i := 1) (v := ?_) rfl (by kernel_rfl) (by kernel_rfl) (by kernel_rfl) (fun _ _ _ h => h) (Or.inl ⟨by rfl, ?_⟩) s0 ?_
    rotate_left 1
    · intro w' hS; obtain ⟨x0, x1, x2, x3, x4, x5⟩ := hS.ins; have r2 := hS.box.reg j hj; clear hS
      go_simp <;> with_reducible rfl
    try simp only [Act.put, List.setIfInBounds_toArray, List.set_cons_zero, List.set_cons_succ]
    refine wpAnyH_takeAt (i := 2) (v := ?_) rfl (by kernel_rfl) (by kernel_rfl) (by kernel_rfl) (fun _ _ _ h => h) (Or.inl ⟨by rfl, ?_⟩) s0 ?_
    rotate_left 1
    · intro w' hS; obtain ⟨x0, x1, x2, x3, x4, x5⟩ := hS.ins; have r2 := hS.box.reg j hj; clear hS
      go_simp <;> with_reducible rfl
    try simp only [Act.put, List.setIfInBounds_toArray, List.set_cons_zero, List.set_cons_succ]
    refine wpAnyH_takeAt (i := 3) (v := ?_) rfl (by kernel_rfl) (by kernel_rfl) (by kernel_rfl) (fun _ _ _ h => h) (Or.inl ⟨by rfl, ?_⟩) s0 ?_
    rotate_left 1
    · intro w' hS; obtain ⟨x0, x1, x2, x3, x4, x5⟩ := hS.ins; have r2 := hS.box.reg j hj; clear hS
      go_simp <;> with_reducible rfl
    try simp only [Act.put, List.setIfInBounds_toArray, List.set_cons_zero, List.set_cons_succ]
    refine wpAnyH_takeAt (i := 4) (v := ?_) rfl (by kernel_rfl) (by kernel_rfl) (by kernel_rfl) (fun _ _ _ h => h) (Or.inl ⟨by rfl, ?_⟩) s0 ?_
    rotate_left 1
    · intro w' hS; obtain ⟨x0, x1, x2, x3, x4, x5⟩ := hS.ins; have r2 := hS.box.reg j hj; clear hS
      go_simp <;> with_reducible rfl
    try simp only [Act.put, List.setIfInBounds_toArray, List.set_cons_zero, List.set_cons_succ]
    refine wpAnyH_takeAt (i := 5) (v := ?_) rfl (by kernel_rfl) (by kernel_rfl) (by kernel_rfl) (fun _ _ _ h => h) (Or.inl ⟨by rfl, ?_⟩) s0 ?_
    rotate_left 1
    · intro w' hS; obtain ⟨x0, x1, x2, x3, x4, x5⟩ := hS.ins; have r2 := hS.box.reg j hj; clear hS
      go_simp <;> with_reducible rfl
    try simp only [Act.put, List.setIfInBounds_toArray, List.set_cons_zero, List.set_cons_succ]
    refine wpAnyH_takeAt (i := 6) (v := ?_) rfl (by kernel_rfl) (by kernel_rfl) (by kernel_rfl) (fun _ _ _ h => h) (Or.inl ⟨by rfl, ?_⟩) s0 ?_
    rotate_left 1
    · intro w' hS; obtain ⟨x0, x1, x2, x3, x4, x5⟩ := hS.ins; have r2 := hS.box.reg j hj; clear hS
      go_simp <;> with_reducible rfl
    try simp only [Act.put, List.setIfInBounds_toArray, List.set_cons_zero, List.set_cons_succ]
    refine wpAnyH_takeAt (i := 7) (v := ?_) rfl (by kernel_rfl) (by kernel_rfl) (by kernel_rfl) (fun _ _ _ h => h) (Or.inl ⟨by rfl, ?_⟩) s0 ?_
    rotate_left 1
    · intro w' hS; obtain ⟨x0, x1, x2, x3, x4, x5⟩ := hS.ins; have r2 := hS.box.reg j hj; clear hS
      go_simp <;> with_reducible rfl
    try simp only [Act.put, List.setIfInBounds_toArray, List.set_cons_zero, List.set_cons_succ]
    refine wpAnyH_takeAt (i := 8) (v := ?_) rfl (by kernel_rfl) (by kernel_rfl) (by kernel_rfl) (fun _ _ _ h => h) (Or.inl ⟨by rfl, ?_⟩) s0 ?_
    rotate_left 1
    · intro w' hS; obtain ⟨x0, x1, x2, x3, x4, x5⟩ := hS.ins; have r2 := hS.box.reg j hj; clear hS
      go_simp <;> with_reducible rfl
    try simp only [Act.put, List.setIfInBounds_toArray, List.set_cons_zero, List.set_cons_succ]
    refine wpAnyH_done (by kernel_rfl) ?_ _
    refine NoPanic.normal ?_
    clear x0 x1 x2 x3 x4 x5
    obtain ⟨x0, x1, x2, x3, x4, x5⟩ := D1.ins
    go_wp2_with fail
    refine (rplain_any op _).mono ?_
    rintro e w2 ⟨rfl, hb2⟩
    have D2 := D1.below hb2
    clear x0 x1 x2 x3 x4 x5 hb2
    obtain ⟨x0, x1, x2, x3, x4, x5⟩ := D2.ins
    have r1 := D2.box.reg i hi
    cases hp : plainB op with
    | true =>
      have hpr : 18 ≤ op ∧ op ≤ 26 := by simpa [plainB] using hp
      have hpl : isPlain op = true := by unfold isPlain; simp; omega
      have he := err_in _ (plainV_in op hpr)
      have hn := numb_cut imm
      have HY := hideC4 (does_yes (c := c) hr hpl (v := Wd.run (plainV op) ((zr c).x i) (numb imm)) (by unfold reckV; rw [if_neg h0, if_neg h1, if_pos hp]; simp))
      clear hr hp hpl hpr
      generalize plainV op = q at he HY ⊢
      go_wp2_with fail
      refine (rdo_any q ((zr c).x i) (numb imm) _).mono ?_
      rintro e w3 ⟨rfl, hb3⟩
      rw [he]
      have D3 := D2.below hb3
      clear hb3 x0 x1 x2 x3 x4 x5 r1 he
      obtain ⟨x0, x1, x2, x3, x4, x5⟩ := D3.ins
      go_wp2_with (first
        | (refine wpList_load_row rfl 32 _ rfl w.heap.size rfl _ _ _ _ D3.box Try.underlying32 rfl (infoCs _) ?_))
      refine (rset4_any (zr c) rd hrd0 hrd1 _ _).mono ?_
      rintro e w4 ⟨rfl, hb4⟩
      have D4 := D3.below hb4
      clear hb4 x0 x1 x2 x3 x4 x5
      go_wp2_with (first
        | (refine wpList_store_row rfl 32 _ _ rfl (w.heap.size + 2) _ rfl rfl _ _ D4.res (infoCs _) (cells_same _ _) (cells_one _) ?_))
      rw [HY.out.1, HY.out.2]
      exact bodyPost_ret (results_row_tmpC (p := 4) (u := 5) (by kernel_rfl) _ _ (w.heap.size + 2) _ _ _ _ rfl (D4.res.setRow _) Try.underlying32 rfl (infoCs _)) rfl ⟨rfl, below_row D4.low (by omega) _⟩
    | false =>
      have hpr : ¬ (18 ≤ op ∧ op ≤ 26) := by simpa [plainB] using hp
      go_wp2_with fail
      refine (rdo_any op ((zr c).x i) ((zr c).x j) _).mono ?_
      rintro e w3 ⟨rfl, hb3⟩
      have D3 := D2.below hb3
      clear hb3 x0 x1 x2 x3 x4 x5 r1
      obtain ⟨x0, x1, x2, x3, x4, x5⟩ := D3.ins
      by_cases hR : 27 ≤ op ∧ op ≤ 44
      · have hpl : isPlain op = true := by unfold isPlain; simp; omega
        have HY := hideC4 (does_yes (c := c) hr hpl (v := Wd.run op ((zr c).x i) ((zr c).x j)) (by unfold reckV; rw [if_neg h0, if_neg h1, if_neg (by simp [hp])]; simp))
        rw [err_in op hR]
        clear hr hp hpl hpr hR
        go_wp2_with (first
          | (refine wpList_load_row rfl 32 _ rfl w.heap.size rfl _ _ _ _ D3.box Try.underlying32 rfl (infoCs _) ?_))
        refine (rset4_any (zr c) rd hrd0 hrd1 _ _).mono ?_
        rintro e w4 ⟨rfl, hb4⟩
        have D4 := D3.below hb4
        clear hb4 x0 x1 x2 x3 x4 x5
        go_wp2_with (first
          | (refine wpList_store_row rfl 32 _ _ rfl (w.heap.size + 2) _ rfl rfl _ _ D4.res (infoCs _) (cells_same _ _) (cells_one _) ?_))
        rw [HY.out.1, HY.out.2]
        exact bodyPost_ret (results_row_tmpC (p := 4) (u := 5) (by kernel_rfl) _ _ (w.heap.size + 2) _ _ _ _ rfl (D4.res.setRow _) Try.underlying32 rfl (infoCs _)) rfl ⟨rfl, below_row D4.low (by omega) _⟩
      · have hpl : isPlain op = false := by unfold isPlain; simp; omega
        have HY := hideC4 (does_not (c := c) (op := op) (rd := rd) (rs1 := (i : Int)) (rs2 := (j : Int)) (imm := imm) (.inr hpl))
        rw [err_out op hR]
        clear hr hp hpl hpr hR
        go_wp2_with (first
      | (refine wpList_load_row rfl 32 _ rfl w.heap.size rfl _ _ _ _ D3.box Try.underlying32 rfl (infoCs _) ?_)
      | (refine wpList_store_row rfl 32 _ _ rfl (w.heap.size + 2) _ rfl rfl _ _ D3.res (infoCs _) (cells_same _ _) (cells_one _) ?_))
        rw [HY.out.1, HY.out.2]
        exact bodyPost_ret (results_row_tmpC (p := 4) (u := 5) (by kernel_rfl) _ _ (w.heap.size + 2) _ _ _ _ rfl (D3.res.setRow _) Try.underlying32 rfl (infoCs _)) rfl ⟨rfl, below_row D3.low (by omega) _⟩
end Go.Proofs.Ytcffpmicencfpaa
