/-
  The document's branches, and its loads and stores.
  One step of the document's machine over its memory.
-/
import Derived.Laws.BitsAllLaws
import Derived.Test.YtilphdfobflbiaaGreatZj
import Derived.Test.YtilphdfobflbiaaGreatZm
import Derived.Test.YtilphdfobflbiaaGreatZo
import Derived.Test.YtilphdfobflbiaaGreatZp
import Derived.Test.YtilphdfobflbiaaGreatZs
import Derived.Test.YtilphdfobflbiaaGreatZw
namespace Go.Proofs.YtilphdfobflbiaaGreat
open Go.RowKit Go.Maps Cp Ip Mm
set_option linter.unusedSimpArgs false
set_option linter.unusedVariables false

set_option maxHeartbeats 2000000 in
theorem rtaken_any (op : Int) (h : 4 ≤ op ∧ op ≤ 9) (a b : BitVec 32) (w : World) :
    Calls Tryz.prog 27 #[.int .i64 op, .int .u32 (a.toNat : Int), .int .u32 (b.toNat : Int)] w fun e w' => e = .returned (.bool (takes op a b)) ∧ w' = w := by
  have h6 : op = 4 ∨ op = 5 ∨ op = 6 ∨ op = 7 ∨ op = 8 ∨ op = 9 := by omega
  clear h
  rcases h6 with rfl | rfl | rfl | rfl | rfl | rfl
  all_goals
    go_enter Tryz.func27, Tryz.ntmps27
    go_wp2_with fail
    refine (num_any a w).mono ?_
    rintro e w1 ⟨rfl, rfl⟩
    go_wp2_with fail
    refine (num_any b w1).mono ?_
    rintro e w2 ⟨rfl, rfl⟩
    go_wp2_with fail
    go_ret
    refine ⟨ret_bool ?_, rfl⟩
    first | exact beq_nat a b | exact bne_nat a b | rfl | exact ge_slt a b | exact ult_nat a b | exact ge_ult a b
theorem accA_is {c : Mach} {i : Nat} {imm : Int} {Z : BitVec 32} (h : Z = c.x i + numb imm) : accA c i imm = Z := by unfold accA; rw [Int.toNat_natCast, h]
theorem sign32 (V : BitVec 32) : Wd.sign V 32 = V := by unfold Wd.sign; simp
theorem onw_zero (c : Mach) (v : BitVec 32) : onw c 0 v = sp c (c.pc + (BitVec.ofNat 32 4)) := by unfold onw put; simp
theorem sp_onw (c : Mach) (v : BitVec 32) : onw c 0 v = sp c (c.pc + (BitVec.ofNat 32 4)) := onw_zero c v
theorem refAt_box {W : World} {B kb g : Nat} {l : Cs} {c : Mach} (h : RefAt W B kb l) (hb : BoxC W g c) (cs : Array Value) : RefAt (W.setRow g cs) B kb l := by
  have hb' : W.heap[g]? = some (.cells (cells c) 25 (0, 0)) := hb
  obtain ⟨v, hv, ho⟩ := h.got
  have n1 : kb ≠ g := by rintro rfl; rw [hv] at hb'; simp at hb'
  have hg : W.grownBy (W.setRow g cs) (some g) := ⟨rfl, rfl, rfl, by simp, fun k _ hk => setRow_other W g k cs (by simpa using hk)⟩
  refine ⟨⟨v, (setRow_other W g kb cs n1).trans hv, ho.kept hg ?_⟩, h.rise, h.base⟩
  rcases ho.2 with ⟨rfl, _⟩ | ⟨g', cap, cur, rfl, _, hg', _⟩
  · exact .inl rfl
  · refine .inr fun e => ?_
    have e2 : g' = g := by simpa [Value.ownBlock] using e
    rw [e2, hb'] at hg'
    simp at hg'
/-- What a load tells, as a word. -/
theorem num_word {l : Cs} (h : Rise l) (a : Int) (n : Nat) (hn : n ≤ 4) : ∃ V : BitVec 32, num l a n = (V.toNat : Int) ∧ V = BitVec.ofInt 32 (num l a n) := by
  have hb := num_range h a n
  have : (256 : Int) ^ n ≤ 256 ^ 4 := by
    have : n = 0 ∨ n = 1 ∨ n = 2 ∨ n = 3 ∨ n = 4 := by omega
    rcases this with rfl | rfl | rfl | rfl | rfl <;> decide
  obtain ⟨V, e⟩ := Wd.of_int (num l a n) hb.1 (by omega)
  refine ⟨V, e, ?_⟩
  rw [e, BitVec.ofInt_natCast, BitVec.ofNat_toNat, BitVec.setWidth_eq]

set_option maxRecDepth 100000 in
set_option maxHeartbeats 4000000 in
theorem raccess_10 {B kb : Nat} {l : Cs} (c : Mach) (rd : Int) (i j : Nat) (imm : Int) (hi : i < 32) (hj : j < 32) (hrd0 : 0 ≤ rd) (hrd1 : rd < 32) (w : World) (h : RefAt w B kb l) (hB : B ≤ w.heap.size) :
    Calls Tryz.prog 28 #[.agg (cells c), .pointer (some ⟨kb, 0, none⟩), .agg #[.int .i64 10, .int .i64 rd, .int .i64 (i : Int), .int .i64 (j : Int), .int .i64 imm]] w fun e w' => e = .returned (.tuple #[.agg (cells (accM c l 10 rd i imm)), .int .i64 (accE c 10 i imm)]) ∧ RefAt w' B kb (accL c l 10 i j imm) ∧ w.grownBy w' (some kb) := by
  have hz := zeroC
  obtain ⟨Z, hZ, hZ', HZ⟩ := bump (c.x i) (numb imm)
  have HA := hideC (accA_is HZ.out)
  have hn := numb_cut imm
  have hn' : IntKind.u32.wrap imm = ((numb imm).toNat : Int) := numb_cut imm
  have hiI : (i : Int) < 32 := by omega
  have hjI : (j : Int) < 32 := by omega
  have D0 := doesAt_start w c 10 rd i j imm
  have hkb := h.lt
  go_enter Tryz.func28, Tryz.ntmps28
  go_upto_region 1 with fail
  generalize ((w.alloc (.cells (cells c) 25)).alloc (.cells #[.int .i64 10, .int .i64 rd, .int .i64 (i : Int), .int .i64 (j : Int), .int .i64 imm] 55)).alloc (.cells (cells nought) 25) = w1 at D0 ⊢
  have r1 := h.below D0.low
  obtain ⟨x0, x1, x2, x3, x4, x5⟩ := D0.ins
  go_upto_region 6 with fail
  have D1 : DoesAt w c nought 10 rd i j imm w1.drew := D0.below (drewN_low w1 1 _)
  have r2 : RefAt w1.drew B kb l := r1.below (drewN_low w1 1 _)
  clear D0 r1 x0 x1 x2 x3 x4 x5
  refine wp_region_noPanic ?_
  refine wp_region_held_drew (S := DoesAt w c nought 10 rd i j imm) (by kernel_rfl) D1 (fun s0 => ?_)
  refine wpAnyH_takeAt (i := 0) (v := ?_) rfl (by kernel_rfl) (by kernel_rfl) (by kernel_rfl) (fun _ _ _ h => h) (Or.inl ⟨by rfl, ?_⟩) s0 ?_
  rotate_left 1
  · intro w' hS; obtain ⟨x0, x1, x2, x3, x4, x5⟩ := hS.ins; have rr := hS.box.reg i hi; clear hS
    go_simp <;> with_reducible rfl
  try simp only [Act.put, List.setIfInBounds_toArray, List.set_cons_zero, List.set_cons_succ]
  refine wpAnyH_takeAt (i := 1) (v := ?_) rfl (by kernel_rfl) (by kernel_rfl) (by kernel_rfl) (fun _ _ _ h => h) (Or.inl ⟨by rfl, ?_⟩) s0 ?_
  rotate_left 1
  · intro w' hS; obtain ⟨x0, x1, x2, x3, x4, x5⟩ := hS.ins; have rr := hS.box.reg i hi; clear hS
    go_simp <;> with_reducible rfl
  try simp only [Act.put, List.setIfInBounds_toArray, List.set_cons_zero, List.set_cons_succ]
  refine wpAnyH_takeAt (i := 2) (v := ?_) rfl (by kernel_rfl) (by kernel_rfl) (by kernel_rfl) (fun _ _ _ h => h) (Or.inl ⟨by rfl, ?_⟩) s0 ?_
  rotate_left 1
  · intro w' hS; obtain ⟨x0, x1, x2, x3, x4, x5⟩ := hS.ins; have rr := hS.box.reg i hi; clear hS
    go_simp <;> with_reducible rfl
  try simp only [Act.put, List.setIfInBounds_toArray, List.set_cons_zero, List.set_cons_succ]
  refine wpAnyH_takeAt (i := 3) (v := ?_) rfl (by kernel_rfl) (by kernel_rfl) (by kernel_rfl) (fun _ _ _ h => h) (Or.inl ⟨by rfl, ?_⟩) s0 ?_
  rotate_left 1
  · intro w' hS; obtain ⟨x0, x1, x2, x3, x4, x5⟩ := hS.ins; have rr := hS.box.reg i hi; clear hS
    go_simp <;> with_reducible rfl
  try simp only [Act.put, List.setIfInBounds_toArray, List.set_cons_zero, List.set_cons_succ]
  refine wpAnyH_takeAt (i := 4) (v := ?_) rfl (by kernel_rfl) (by kernel_rfl) (by kernel_rfl) (fun _ _ _ h => h) (Or.inl ⟨by rfl, ?_⟩) s0 ?_
  rotate_left 1
  · intro w' hS; obtain ⟨x0, x1, x2, x3, x4, x5⟩ := hS.ins; have rr := hS.box.reg i hi; clear hS
    go_simp <;> with_reducible rfl
  try simp only [Act.put, List.setIfInBounds_toArray, List.set_cons_zero, List.set_cons_succ]
  refine wpAnyH_takeAt (i := 5) (v := ?_) rfl (by kernel_rfl) (by kernel_rfl) (by kernel_rfl) (fun _ _ _ h => h) (Or.inl ⟨by rfl, ?_⟩) s0 ?_
  rotate_left 1
  · intro w' hS; obtain ⟨x0, x1, x2, x3, x4, x5⟩ := hS.ins; have rr := hS.box.reg i hi; clear hS
    go_simp <;> with_reducible rfl
  try simp only [Act.put, List.setIfInBounds_toArray, List.set_cons_zero, List.set_cons_succ]
  refine wpAnyH_takeAt (i := 6) (v := ?_) rfl (by kernel_rfl) (by kernel_rfl) (by kernel_rfl) (fun _ _ _ h => h) (Or.inl ⟨by rfl, ?_⟩) s0 ?_
  rotate_left 1
  · intro w' hS; obtain ⟨x0, x1, x2, x3, x4, x5⟩ := hS.ins; have rr := hS.box.reg i hi; clear hS
    go_simp <;> with_reducible rfl
  try simp only [Act.put, List.setIfInBounds_toArray, List.set_cons_zero, List.set_cons_succ]
  refine wpAnyH_takeAt (i := 7) (v := .int .u32 ((numb imm).toNat : Int)) rfl (by kernel_rfl) (by kernel_rfl) (by kernel_rfl) (fun _ _ _ h => h) (Or.inl ⟨by rfl, ?_⟩) s0 ?_
  · intro w' hS; obtain ⟨x0, x1, x2, x3, x4, x5⟩ := hS.ins; have rr := hS.box.reg i hi; clear hS
    go_simp
  try simp only [Act.put, List.setIfInBounds_toArray, List.set_cons_zero, List.set_cons_succ]
  refine wpAnyH_takeAt (i := 8) (v := .int .u32 (Z.toNat : Int)) rfl (by kernel_rfl) (by kernel_rfl) (by kernel_rfl) (fun _ _ _ h => h) (Or.inl ⟨by rfl, ?_⟩) s0 ?_
  · intro w' hS; obtain ⟨x0, x1, x2, x3, x4, x5⟩ := hS.ins; have rr := hS.box.reg i hi; clear hS
    go_simp
  try simp only [Act.put, List.setIfInBounds_toArray, List.set_cons_zero, List.set_cons_succ]
  refine wpAnyH_takeAt (i := 9) (v := ?_) rfl (by kernel_rfl) (by kernel_rfl) (by kernel_rfl) (fun _ _ _ h => h) (Or.inl ⟨by rfl, ?_⟩) s0 ?_
  rotate_left 1
  · intro w' hS; clear hS
    go_simp <;> with_reducible rfl
  try simp only [Act.put, List.setIfInBounds_toArray, List.set_cons_zero, List.set_cons_succ]
  refine wpAnyH_done (by kernel_rfl) ?_ _
  refine NoPanic.normal ?_
  obtain ⟨x0, x1, x2, x3, x4, x5⟩ := D1.ins
  have hZb := Wd.lt Z
  clear hZ hZ' hn hn'
  by_cases hA : (Z.toNat : Int) % 1 = 0
  · have hok : accOk c 10 i imm = true := by unfold accOk; rw [HA.out]; simp [wN]
    have HM := hideC (show accE c 10 i imm = 0 by unfold accE; rw [if_pos hok])
    have tA : ((Z.toNat : Int).tmod 1 != 0) = false := by simp
    have tA2 : ((Z.toNat : Int) % 1 != 0) = false := by simp
    have hfm : ((frm 10 : Nat) : Int) = 73 := by decide
    go_wp2_with fail
    have hfrm := rform_any 10 w1.drew
    rw [hfm] at hfrm
    refine hfrm.mono ?_
    rintro e w2 ⟨rfl, rfl⟩
    go_wp2_with fail
    refine (rload_any w1.drew r2 ⟨by omega, hZb⟩ (Or.inl rfl)).mono ?_
    rintro e w3 ⟨rfl, rfl⟩
    obtain ⟨Vv, hVv, HVv⟩ := num_word h.rise (Z.toNat : Int) 1 (by omega)
    have HV := hideC HVv
    rw [show num l (Z.toNat : Int) (Int.toNat 1) = (Vv.toNat : Int) from hVv]
    clear hVv HVv
    go_wp2_with fail
    refine (rsign_any Vv 8 w1.drew).mono ?_
    rintro e w4 ⟨rfl, hb4⟩
    have D4 := D1.below hb4
    have r4 := r2.below hb4
    clear x0 x1 x2 x3 x4 x5
    obtain ⟨x0, x1, x2, x3, x4, x5⟩ := D4.ins
    have eV := hideC (show Wd.sign Vv 8 = loadV l Z 10 by unfold loadV; rw [HV.out]; rfl)
    go_wp2_with (first | (refine wpList_load_rowG (by rfl) 25 _ rfl w.heap.size rfl _ _ _ _ D4.box Tryz.underlying25 rfl (infoCs _) ?_))
    refine (rset4_any c rd hrd0 hrd1 (Wd.sign Vv 8) _).mono ?_
    rintro e w5 ⟨rfl, hb5⟩
    have D5 := D4.below hb5
    have r5 := r4.below hb5
    clear x0 x1 x2 x3 x4 x5
    go_wp2_with (first | (refine wpList_store_row rfl 25 _ _ rfl (w.heap.size + 2) _ rfl rfl _ _ D5.res (infoCs _) (cells_same _ _) (cells_one _) ?_))
    have eM : accM c l 10 rd i imm = onw c rd (Wd.sign Vv 8) := by unfold accM; rw [if_pos hok, if_neg (by decide), HA.out, eV.out]
    have eL : accL c l 10 i j imm = l := by unfold accL; rw [if_neg (fun hh => absurd hh.2 (by decide))]
    have lo : Below w.heap.size w (w5.setRow (w.heap.size + 2) (cells (onw c rd (Wd.sign Vv 8)))) := below_row D5.low (by omega) _
    rw [eM, HM.out, eL]
    exact bodyPost_ret (results_row_tmp (p := 6) (u := 7) (by kernel_rfl) _ _ (w.heap.size + 2) _ _ _ _ rfl (D5.res.setRow _) Tryz.underlying25 rfl (infoCs _)) rfl ⟨rfl, h.below lo, grown_of_below lo⟩
  · exact absurd (Int.emod_one _) hA

set_option maxRecDepth 100000 in
set_option maxHeartbeats 4000000 in
theorem raccess_11 {B kb : Nat} {l : Cs} (c : Mach) (rd : Int) (i j : Nat) (imm : Int) (hi : i < 32) (hj : j < 32) (hrd0 : 0 ≤ rd) (hrd1 : rd < 32) (w : World) (h : RefAt w B kb l) (hB : B ≤ w.heap.size) :
    Calls Tryz.prog 28 #[.agg (cells c), .pointer (some ⟨kb, 0, none⟩), .agg #[.int .i64 11, .int .i64 rd, .int .i64 (i : Int), .int .i64 (j : Int), .int .i64 imm]] w fun e w' => e = .returned (.tuple #[.agg (cells (accM c l 11 rd i imm)), .int .i64 (accE c 11 i imm)]) ∧ RefAt w' B kb (accL c l 11 i j imm) ∧ w.grownBy w' (some kb) := by
  have hz := zeroC
  obtain ⟨Z, hZ, hZ', HZ⟩ := bump (c.x i) (numb imm)
  have HA := hideC (accA_is HZ.out)
  have hn := numb_cut imm
  have hn' : IntKind.u32.wrap imm = ((numb imm).toNat : Int) := numb_cut imm
  have hiI : (i : Int) < 32 := by omega
  have hjI : (j : Int) < 32 := by omega
  have D0 := doesAt_start w c 11 rd i j imm
  have hkb := h.lt
  go_enter Tryz.func28, Tryz.ntmps28
  go_upto_region 1 with fail
  generalize ((w.alloc (.cells (cells c) 25)).alloc (.cells #[.int .i64 11, .int .i64 rd, .int .i64 (i : Int), .int .i64 (j : Int), .int .i64 imm] 55)).alloc (.cells (cells nought) 25) = w1 at D0 ⊢
  have r1 := h.below D0.low
  obtain ⟨x0, x1, x2, x3, x4, x5⟩ := D0.ins
  go_upto_region 6 with fail
  have D1 : DoesAt w c nought 11 rd i j imm w1.drew := D0.below (drewN_low w1 1 _)
  have r2 : RefAt w1.drew B kb l := r1.below (drewN_low w1 1 _)
  clear D0 r1 x0 x1 x2 x3 x4 x5
  refine wp_region_noPanic ?_
  refine wp_region_held_drew (S := DoesAt w c nought 11 rd i j imm) (by kernel_rfl) D1 (fun s0 => ?_)
  refine wpAnyH_takeAt (i := 0) (v := ?_) rfl (by kernel_rfl) (by kernel_rfl) (by kernel_rfl) (fun _ _ _ h => h) (Or.inl ⟨by rfl, ?_⟩) s0 ?_
  rotate_left 1
  · intro w' hS; obtain ⟨x0, x1, x2, x3, x4, x5⟩ := hS.ins; have rr := hS.box.reg i hi; clear hS
    go_simp <;> with_reducible rfl
  try simp only [Act.put, List.setIfInBounds_toArray, List.set_cons_zero, List.set_cons_succ]
  refine wpAnyH_takeAt (i := 1) (v := ?_) rfl (by kernel_rfl) (by kernel_rfl) (by kernel_rfl) (fun _ _ _ h => h) (Or.inl ⟨by rfl, ?_⟩) s0 ?_
  rotate_left 1
  · intro w' hS; obtain ⟨x0, x1, x2, x3, x4, x5⟩ := hS.ins; have rr := hS.box.reg i hi; clear hS
    go_simp <;> with_reducible rfl
  try simp only [Act.put, List.setIfInBounds_toArray, List.set_cons_zero, List.set_cons_succ]
  refine wpAnyH_takeAt (i := 2) (v := ?_) rfl (by kernel_rfl) (by kernel_rfl) (by kernel_rfl) (fun _ _ _ h => h) (Or.inl ⟨by rfl, ?_⟩) s0 ?_
  rotate_left 1
  · intro w' hS; obtain ⟨x0, x1, x2, x3, x4, x5⟩ := hS.ins; have rr := hS.box.reg i hi; clear hS
    go_simp <;> with_reducible rfl
  try simp only [Act.put, List.setIfInBounds_toArray, List.set_cons_zero, List.set_cons_succ]
  refine wpAnyH_takeAt (i := 3) (v := ?_) rfl (by kernel_rfl) (by kernel_rfl) (by kernel_rfl) (fun _ _ _ h => h) (Or.inl ⟨by rfl, ?_⟩) s0 ?_
  rotate_left 1
  · intro w' hS; obtain ⟨x0, x1, x2, x3, x4, x5⟩ := hS.ins; have rr := hS.box.reg i hi; clear hS
    go_simp <;> with_reducible rfl
  try simp only [Act.put, List.setIfInBounds_toArray, List.set_cons_zero, List.set_cons_succ]
  refine wpAnyH_takeAt (i := 4) (v := ?_) rfl (by kernel_rfl) (by kernel_rfl) (by kernel_rfl) (fun _ _ _ h => h) (Or.inl ⟨by rfl, ?_⟩) s0 ?_
  rotate_left 1
  · intro w' hS; obtain ⟨x0, x1, x2, x3, x4, x5⟩ := hS.ins; have rr := hS.box.reg i hi; clear hS
    go_simp <;> with_reducible rfl
  try simp only [Act.put, List.setIfInBounds_toArray, List.set_cons_zero, List.set_cons_succ]
  refine wpAnyH_takeAt (i := 5) (v := ?_) rfl (by kernel_rfl) (by kernel_rfl) (by kernel_rfl) (fun _ _ _ h => h) (Or.inl ⟨by rfl, ?_⟩) s0 ?_
  rotate_left 1
  · intro w' hS; obtain ⟨x0, x1, x2, x3, x4, x5⟩ := hS.ins; have rr := hS.box.reg i hi; clear hS
    go_simp <;> with_reducible rfl
  try simp only [Act.put, List.setIfInBounds_toArray, List.set_cons_zero, List.set_cons_succ]
  refine wpAnyH_takeAt (i := 6) (v := ?_) rfl (by kernel_rfl) (by kernel_rfl) (by kernel_rfl) (fun _ _ _ h => h) (Or.inl ⟨by rfl, ?_⟩) s0 ?_
  rotate_left 1
  · intro w' hS; obtain ⟨x0, x1, x2, x3, x4, x5⟩ := hS.ins; have rr := hS.box.reg i hi; clear hS
    go_simp <;> with_reducible rfl
  try simp only [Act.put, List.setIfInBounds_toArray, List.set_cons_zero, List.set_cons_succ]
  refine wpAnyH_takeAt (i := 7) (v := .int .u32 ((numb imm).toNat : Int)) rfl (by kernel_rfl) (by kernel_rfl) (by kernel_rfl) (fun _ _ _ h => h) (Or.inl ⟨by rfl, ?_⟩) s0 ?_
  · intro w' hS; obtain ⟨x0, x1, x2, x3, x4, x5⟩ := hS.ins; have rr := hS.box.reg i hi; clear hS
    go_simp
  try simp only [Act.put, List.setIfInBounds_toArray, List.set_cons_zero, List.set_cons_succ]
  refine wpAnyH_takeAt (i := 8) (v := .int .u32 (Z.toNat : Int)) rfl (by kernel_rfl) (by kernel_rfl) (by kernel_rfl) (fun _ _ _ h => h) (Or.inl ⟨by rfl, ?_⟩) s0 ?_
  · intro w' hS; obtain ⟨x0, x1, x2, x3, x4, x5⟩ := hS.ins; have rr := hS.box.reg i hi; clear hS
    go_simp
  try simp only [Act.put, List.setIfInBounds_toArray, List.set_cons_zero, List.set_cons_succ]
  refine wpAnyH_takeAt (i := 9) (v := ?_) rfl (by kernel_rfl) (by kernel_rfl) (by kernel_rfl) (fun _ _ _ h => h) (Or.inl ⟨by rfl, ?_⟩) s0 ?_
  rotate_left 1
  · intro w' hS; clear hS
    go_simp <;> with_reducible rfl
  try simp only [Act.put, List.setIfInBounds_toArray, List.set_cons_zero, List.set_cons_succ]
  refine wpAnyH_done (by kernel_rfl) ?_ _
  refine NoPanic.normal ?_
  obtain ⟨x0, x1, x2, x3, x4, x5⟩ := D1.ins
  have hZb := Wd.lt Z
  clear hZ hZ' hn hn'
  by_cases hA : (Z.toNat : Int) % 2 = 0
  · have hok : accOk c 11 i imm = true := by unfold accOk; rw [HA.out]; simpa [wN] using hA
    have HM := hideC (show accE c 11 i imm = 0 by unfold accE; rw [if_pos hok])
    have tA : ((Z.toNat : Int).tmod 2 != 0) = false := by rw [Int.tmod_eq_emod_of_nonneg (by omega)]; simpa using hA
    have tA2 : ((Z.toNat : Int) % 2 != 0) = false := by simpa using hA
    have hfm : ((frm 11 : Nat) : Int) = 73 := by decide
    go_wp2_with fail
    have hfrm := rform_any 11 w1.drew
    rw [hfm] at hfrm
    refine hfrm.mono ?_
    rintro e w2 ⟨rfl, rfl⟩
    go_wp2_with fail
    refine (rload_any w1.drew r2 ⟨by omega, hZb⟩ (Or.inr (Or.inl rfl))).mono ?_
    rintro e w3 ⟨rfl, rfl⟩
    obtain ⟨Vv, hVv, HVv⟩ := num_word h.rise (Z.toNat : Int) 2 (by omega)
    have HV := hideC HVv
    rw [show num l (Z.toNat : Int) (Int.toNat 2) = (Vv.toNat : Int) from hVv]
    clear hVv HVv
    go_wp2_with fail
    refine (rsign_any Vv 16 w1.drew).mono ?_
    rintro e w4 ⟨rfl, hb4⟩
    have D4 := D1.below hb4
    have r4 := r2.below hb4
    clear x0 x1 x2 x3 x4 x5
    obtain ⟨x0, x1, x2, x3, x4, x5⟩ := D4.ins
    have eV := hideC (show Wd.sign Vv 16 = loadV l Z 11 by unfold loadV; rw [HV.out]; rfl)
    go_wp2_with (first | (refine wpList_load_rowG (by rfl) 25 _ rfl w.heap.size rfl _ _ _ _ D4.box Tryz.underlying25 rfl (infoCs _) ?_))
    refine (rset4_any c rd hrd0 hrd1 (Wd.sign Vv 16) _).mono ?_
    rintro e w5 ⟨rfl, hb5⟩
    have D5 := D4.below hb5
    have r5 := r4.below hb5
    clear x0 x1 x2 x3 x4 x5
    go_wp2_with (first | (refine wpList_store_row rfl 25 _ _ rfl (w.heap.size + 2) _ rfl rfl _ _ D5.res (infoCs _) (cells_same _ _) (cells_one _) ?_))
    have eM : accM c l 11 rd i imm = onw c rd (Wd.sign Vv 16) := by unfold accM; rw [if_pos hok, if_neg (by decide), HA.out, eV.out]
    have eL : accL c l 11 i j imm = l := by unfold accL; rw [if_neg (fun hh => absurd hh.2 (by decide))]
    have lo : Below w.heap.size w (w5.setRow (w.heap.size + 2) (cells (onw c rd (Wd.sign Vv 16)))) := below_row D5.low (by omega) _
    rw [eM, HM.out, eL]
    exact bodyPost_ret (results_row_tmp (p := 6) (u := 7) (by kernel_rfl) _ _ (w.heap.size + 2) _ _ _ _ rfl (D5.res.setRow _) Tryz.underlying25 rfl (infoCs _)) rfl ⟨rfl, h.below lo, grown_of_below lo⟩
  · have hok : ¬ accOk c 11 i imm = true := by unfold accOk; rw [HA.out]; simpa [wN] using hA
    have tA : ((Z.toNat : Int).tmod 2 != 0) = true := by rw [Int.tmod_eq_emod_of_nonneg (by omega)]; simpa using hA
    have tA2 : ((Z.toNat : Int) % 2 != 0) = true := by simpa using hA
    have eM : accM c l 11 rd i imm = c := by unfold accM; rw [if_neg hok]
    have eE : accE c 11 i imm = 5 := by unfold accE; rw [if_neg hok]
    have eL : accL c l 11 i j imm = l := by unfold accL; rw [if_neg (fun hh => hok hh.1)]
    have H3 := hideC (And.intro eM (And.intro eE eL))
    clear eM eE eL hok
    go_wp2_with (first | (refine wpList_load_rowG (by rfl) 25 _ rfl w.heap.size rfl _ _ _ _ D1.box Tryz.underlying25 rfl (infoCs _) ?_) | (refine wpList_store_row rfl 25 _ _ rfl (w.heap.size + 2) _ rfl rfl _ _ D1.res (infoCs _) (cells_same _ _) (cells_one _) ?_))
    have lo : Below w.heap.size w (w1.drew.setRow (w.heap.size + 2) (cells c)) := below_row D1.low (by omega) _
    rw [H3.out.1, H3.out.2.1, H3.out.2.2]
    exact bodyPost_ret (results_row_tmp (p := 6) (u := 7) (by kernel_rfl) _ _ (w.heap.size + 2) _ _ _ _ rfl (D1.res.setRow _) Tryz.underlying25 rfl (infoCs _)) rfl ⟨rfl, h.below lo, grown_of_below lo⟩

set_option maxRecDepth 100000 in
set_option maxHeartbeats 4000000 in
theorem raccess_12 {B kb : Nat} {l : Cs} (c : Mach) (rd : Int) (i j : Nat) (imm : Int) (hi : i < 32) (hj : j < 32) (hrd0 : 0 ≤ rd) (hrd1 : rd < 32) (w : World) (h : RefAt w B kb l) (hB : B ≤ w.heap.size) :
    Calls Tryz.prog 28 #[.agg (cells c), .pointer (some ⟨kb, 0, none⟩), .agg #[.int .i64 12, .int .i64 rd, .int .i64 (i : Int), .int .i64 (j : Int), .int .i64 imm]] w fun e w' => e = .returned (.tuple #[.agg (cells (accM c l 12 rd i imm)), .int .i64 (accE c 12 i imm)]) ∧ RefAt w' B kb (accL c l 12 i j imm) ∧ w.grownBy w' (some kb) := by
  have hz := zeroC
  obtain ⟨Z, hZ, hZ', HZ⟩ := bump (c.x i) (numb imm)
  have HA := hideC (accA_is HZ.out)
  have hn := numb_cut imm
  have hn' : IntKind.u32.wrap imm = ((numb imm).toNat : Int) := numb_cut imm
  have hiI : (i : Int) < 32 := by omega
  have hjI : (j : Int) < 32 := by omega
  have D0 := doesAt_start w c 12 rd i j imm
  have hkb := h.lt
  go_enter Tryz.func28, Tryz.ntmps28
  go_upto_region 1 with fail
  generalize ((w.alloc (.cells (cells c) 25)).alloc (.cells #[.int .i64 12, .int .i64 rd, .int .i64 (i : Int), .int .i64 (j : Int), .int .i64 imm] 55)).alloc (.cells (cells nought) 25) = w1 at D0 ⊢
  have r1 := h.below D0.low
  obtain ⟨x0, x1, x2, x3, x4, x5⟩ := D0.ins
  go_upto_region 6 with fail
  have D1 : DoesAt w c nought 12 rd i j imm w1.drew := D0.below (drewN_low w1 1 _)
  have r2 : RefAt w1.drew B kb l := r1.below (drewN_low w1 1 _)
  clear D0 r1 x0 x1 x2 x3 x4 x5
  refine wp_region_noPanic ?_
  refine wp_region_held_drew (S := DoesAt w c nought 12 rd i j imm) (by kernel_rfl) D1 (fun s0 => ?_)
  refine wpAnyH_takeAt (i := 0) (v := ?_) rfl (by kernel_rfl) (by kernel_rfl) (by kernel_rfl) (fun _ _ _ h => h) (Or.inl ⟨by rfl, ?_⟩) s0 ?_
  rotate_left 1
  · intro w' hS; obtain ⟨x0, x1, x2, x3, x4, x5⟩ := hS.ins; have rr := hS.box.reg i hi; clear hS
    go_simp <;> with_reducible rfl
  try simp only [Act.put, List.setIfInBounds_toArray, List.set_cons_zero, List.set_cons_succ]
  refine wpAnyH_takeAt (i := 1) (v := ?_) rfl (by kernel_rfl) (by kernel_rfl) (by kernel_rfl) (fun _ _ _ h => h) (Or.inl ⟨by rfl, ?_⟩) s0 ?_
  rotate_left 1
  · intro w' hS; obtain ⟨x0, x1, x2, x3, x4, x5⟩ := hS.ins; have rr := hS.box.reg i hi; clear hS
    go_simp <;> with_reducible rfl
  try simp only [Act.put, List.setIfInBounds_toArray, List.set_cons_zero, List.set_cons_succ]
  refine wpAnyH_takeAt (i := 2) (v := ?_) rfl (by kernel_rfl) (by kernel_rfl) (by kernel_rfl) (fun _ _ _ h => h) (Or.inl ⟨by rfl, ?_⟩) s0 ?_
  rotate_left 1
  · intro w' hS; obtain ⟨x0, x1, x2, x3, x4, x5⟩ := hS.ins; have rr := hS.box.reg i hi; clear hS
    go_simp <;> with_reducible rfl
  try simp only [Act.put, List.setIfInBounds_toArray, List.set_cons_zero, List.set_cons_succ]
  refine wpAnyH_takeAt (i := 3) (v := ?_) rfl (by kernel_rfl) (by kernel_rfl) (by kernel_rfl) (fun _ _ _ h => h) (Or.inl ⟨by rfl, ?_⟩) s0 ?_
  rotate_left 1
  · intro w' hS; obtain ⟨x0, x1, x2, x3, x4, x5⟩ := hS.ins; have rr := hS.box.reg i hi; clear hS
    go_simp <;> with_reducible rfl
  try simp only [Act.put, List.setIfInBounds_toArray, List.set_cons_zero, List.set_cons_succ]
  refine wpAnyH_takeAt (i := 4) (v := ?_) rfl (by kernel_rfl) (by kernel_rfl) (by kernel_rfl) (fun _ _ _ h => h) (Or.inl ⟨by rfl, ?_⟩) s0 ?_
  rotate_left 1
  · intro w' hS; obtain ⟨x0, x1, x2, x3, x4, x5⟩ := hS.ins; have rr := hS.box.reg i hi; clear hS
    go_simp <;> with_reducible rfl
  try simp only [Act.put, List.setIfInBounds_toArray, List.set_cons_zero, List.set_cons_succ]
  refine wpAnyH_takeAt (i := 5) (v := ?_) rfl (by kernel_rfl) (by kernel_rfl) (by kernel_rfl) (fun _ _ _ h => h) (Or.inl ⟨by rfl, ?_⟩) s0 ?_
  rotate_left 1
  · intro w' hS; obtain ⟨x0, x1, x2, x3, x4, x5⟩ := hS.ins; have rr := hS.box.reg i hi; clear hS
    go_simp <;> with_reducible rfl
  try simp only [Act.put, List.setIfInBounds_toArray, List.set_cons_zero, List.set_cons_succ]
  refine wpAnyH_takeAt (i := 6) (v := ?_) rfl (by kernel_rfl) (by kernel_rfl) (by kernel_rfl) (fun _ _ _ h => h) (Or.inl ⟨by rfl, ?_⟩) s0 ?_
  rotate_left 1
  · intro w' hS; obtain ⟨x0, x1, x2, x3, x4, x5⟩ := hS.ins; have rr := hS.box.reg i hi; clear hS
    go_simp <;> with_reducible rfl
  try simp only [Act.put, List.setIfInBounds_toArray, List.set_cons_zero, List.set_cons_succ]
  refine wpAnyH_takeAt (i := 7) (v := .int .u32 ((numb imm).toNat : Int)) rfl (by kernel_rfl) (by kernel_rfl) (by kernel_rfl) (fun _ _ _ h => h) (Or.inl ⟨by rfl, ?_⟩) s0 ?_
  · intro w' hS; obtain ⟨x0, x1, x2, x3, x4, x5⟩ := hS.ins; have rr := hS.box.reg i hi; clear hS
    go_simp
  try simp only [Act.put, List.setIfInBounds_toArray, List.set_cons_zero, List.set_cons_succ]
  refine wpAnyH_takeAt (i := 8) (v := .int .u32 (Z.toNat : Int)) rfl (by kernel_rfl) (by kernel_rfl) (by kernel_rfl) (fun _ _ _ h => h) (Or.inl ⟨by rfl, ?_⟩) s0 ?_
  · intro w' hS; obtain ⟨x0, x1, x2, x3, x4, x5⟩ := hS.ins; have rr := hS.box.reg i hi; clear hS
    go_simp
  try simp only [Act.put, List.setIfInBounds_toArray, List.set_cons_zero, List.set_cons_succ]
  refine wpAnyH_takeAt (i := 9) (v := ?_) rfl (by kernel_rfl) (by kernel_rfl) (by kernel_rfl) (fun _ _ _ h => h) (Or.inl ⟨by rfl, ?_⟩) s0 ?_
  rotate_left 1
  · intro w' hS; clear hS
    go_simp <;> with_reducible rfl
  try simp only [Act.put, List.setIfInBounds_toArray, List.set_cons_zero, List.set_cons_succ]
  refine wpAnyH_done (by kernel_rfl) ?_ _
  refine NoPanic.normal ?_
  obtain ⟨x0, x1, x2, x3, x4, x5⟩ := D1.ins
  have hZb := Wd.lt Z
  clear hZ hZ' hn hn'
  by_cases hA : (Z.toNat : Int) % 4 = 0
  · have hok : accOk c 12 i imm = true := by unfold accOk; rw [HA.out]; simpa [wN] using hA
    have HM := hideC (show accE c 12 i imm = 0 by unfold accE; rw [if_pos hok])
    have tA : ((Z.toNat : Int).tmod 4 != 0) = false := by rw [Int.tmod_eq_emod_of_nonneg (by omega)]; simpa using hA
    have tA2 : ((Z.toNat : Int) % 4 != 0) = false := by simpa using hA
    have hfm : ((frm 12 : Nat) : Int) = 73 := by decide
    go_wp2_with fail
    have hfrm := rform_any 12 w1.drew
    rw [hfm] at hfrm
    refine hfrm.mono ?_
    rintro e w2 ⟨rfl, rfl⟩
    go_wp2_with fail
    refine (rload_any w1.drew r2 ⟨by omega, hZb⟩ (Or.inr (Or.inr rfl))).mono ?_
    rintro e w3 ⟨rfl, rfl⟩
    obtain ⟨Vv, hVv, HVv⟩ := num_word h.rise (Z.toNat : Int) 4 (by omega)
    have HV := hideC HVv
    rw [show num l (Z.toNat : Int) (Int.toNat 4) = (Vv.toNat : Int) from hVv]
    clear hVv HVv
    have D4 := D1
    have r4 := r2
    have eV := hideC (show Vv = loadV l Z 12 by unfold loadV; rw [show wS 12 = 32 from rfl, sign32, HV.out]; rfl)
    go_wp2_with (first | (refine wpList_load_rowG (by rfl) 25 _ rfl w.heap.size rfl _ _ _ _ D4.box Tryz.underlying25 rfl (infoCs _) ?_))
    refine (rset4_any c rd hrd0 hrd1 Vv _).mono ?_
    rintro e w5 ⟨rfl, hb5⟩
    have D5 := D4.below hb5
    have r5 := r4.below hb5
    clear x0 x1 x2 x3 x4 x5
    go_wp2_with (first | (refine wpList_store_row rfl 25 _ _ rfl (w.heap.size + 2) _ rfl rfl _ _ D5.res (infoCs _) (cells_same _ _) (cells_one _) ?_))
    have eM : accM c l 12 rd i imm = onw c rd Vv := by unfold accM; rw [if_pos hok, if_neg (by decide), HA.out, eV.out]
    have eL : accL c l 12 i j imm = l := by unfold accL; rw [if_neg (fun hh => absurd hh.2 (by decide))]
    have lo : Below w.heap.size w (w5.setRow (w.heap.size + 2) (cells (onw c rd Vv))) := below_row D5.low (by omega) _
    rw [eM, HM.out, eL]
    exact bodyPost_ret (results_row_tmp (p := 6) (u := 7) (by kernel_rfl) _ _ (w.heap.size + 2) _ _ _ _ rfl (D5.res.setRow _) Tryz.underlying25 rfl (infoCs _)) rfl ⟨rfl, h.below lo, grown_of_below lo⟩
  · have hok : ¬ accOk c 12 i imm = true := by unfold accOk; rw [HA.out]; simpa [wN] using hA
    have tA : ((Z.toNat : Int).tmod 4 != 0) = true := by rw [Int.tmod_eq_emod_of_nonneg (by omega)]; simpa using hA
    have tA2 : ((Z.toNat : Int) % 4 != 0) = true := by simpa using hA
    have eM : accM c l 12 rd i imm = c := by unfold accM; rw [if_neg hok]
    have eE : accE c 12 i imm = 5 := by unfold accE; rw [if_neg hok]
    have eL : accL c l 12 i j imm = l := by unfold accL; rw [if_neg (fun hh => hok hh.1)]
    have H3 := hideC (And.intro eM (And.intro eE eL))
    clear eM eE eL hok
    go_wp2_with (first | (refine wpList_load_rowG (by rfl) 25 _ rfl w.heap.size rfl _ _ _ _ D1.box Tryz.underlying25 rfl (infoCs _) ?_) | (refine wpList_store_row rfl 25 _ _ rfl (w.heap.size + 2) _ rfl rfl _ _ D1.res (infoCs _) (cells_same _ _) (cells_one _) ?_))
    have lo : Below w.heap.size w (w1.drew.setRow (w.heap.size + 2) (cells c)) := below_row D1.low (by omega) _
    rw [H3.out.1, H3.out.2.1, H3.out.2.2]
    exact bodyPost_ret (results_row_tmp (p := 6) (u := 7) (by kernel_rfl) _ _ (w.heap.size + 2) _ _ _ _ rfl (D1.res.setRow _) Tryz.underlying25 rfl (infoCs _)) rfl ⟨rfl, h.below lo, grown_of_below lo⟩

set_option maxRecDepth 100000 in
set_option maxHeartbeats 4000000 in
theorem raccess_13 {B kb : Nat} {l : Cs} (c : Mach) (rd : Int) (i j : Nat) (imm : Int) (hi : i < 32) (hj : j < 32) (hrd0 : 0 ≤ rd) (hrd1 : rd < 32) (w : World) (h : RefAt w B kb l) (hB : B ≤ w.heap.size) :
    Calls Tryz.prog 28 #[.agg (cells c), .pointer (some ⟨kb, 0, none⟩), .agg #[.int .i64 13, .int .i64 rd, .int .i64 (i : Int), .int .i64 (j : Int), .int .i64 imm]] w fun e w' => e = .returned (.tuple #[.agg (cells (accM c l 13 rd i imm)), .int .i64 (accE c 13 i imm)]) ∧ RefAt w' B kb (accL c l 13 i j imm) ∧ w.grownBy w' (some kb) := by
  have hz := zeroC
  obtain ⟨Z, hZ, hZ', HZ⟩ := bump (c.x i) (numb imm)
  have HA := hideC (accA_is HZ.out)
  have hn := numb_cut imm
  have hn' : IntKind.u32.wrap imm = ((numb imm).toNat : Int) := numb_cut imm
  have hiI : (i : Int) < 32 := by omega
  have hjI : (j : Int) < 32 := by omega
  have D0 := doesAt_start w c 13 rd i j imm
  have hkb := h.lt
  go_enter Tryz.func28, Tryz.ntmps28
  go_upto_region 1 with fail
  generalize ((w.alloc (.cells (cells c) 25)).alloc (.cells #[.int .i64 13, .int .i64 rd, .int .i64 (i : Int), .int .i64 (j : Int), .int .i64 imm] 55)).alloc (.cells (cells nought) 25) = w1 at D0 ⊢
  have r1 := h.below D0.low
  obtain ⟨x0, x1, x2, x3, x4, x5⟩ := D0.ins
  go_upto_region 6 with fail
  have D1 : DoesAt w c nought 13 rd i j imm w1.drew := D0.below (drewN_low w1 1 _)
  have r2 : RefAt w1.drew B kb l := r1.below (drewN_low w1 1 _)
  clear D0 r1 x0 x1 x2 x3 x4 x5
  refine wp_region_noPanic ?_
  refine wp_region_held_drew (S := DoesAt w c nought 13 rd i j imm) (by kernel_rfl) D1 (fun s0 => ?_)
  refine wpAnyH_takeAt (i := 0) (v := ?_) rfl (by kernel_rfl) (by kernel_rfl) (by kernel_rfl) (fun _ _ _ h => h) (Or.inl ⟨by rfl, ?_⟩) s0 ?_
  rotate_left 1
  · intro w' hS; obtain ⟨x0, x1, x2, x3, x4, x5⟩ := hS.ins; have rr := hS.box.reg i hi; clear hS
    go_simp <;> with_reducible rfl
  try simp only [Act.put, List.setIfInBounds_toArray, List.set_cons_zero, List.set_cons_succ]
  refine wpAnyH_takeAt (i := 1) (v := ?_) rfl (by kernel_rfl) (by kernel_rfl) (by kernel_rfl) (fun _ _ _ h => h) (Or.inl ⟨by rfl, ?_⟩) s0 ?_
  rotate_left 1
  · intro w' hS; obtain ⟨x0, x1, x2, x3, x4, x5⟩ := hS.ins; have rr := hS.box.reg i hi; clear hS
    go_simp <;> with_reducible rfl
  try simp only [Act.put, List.setIfInBounds_toArray, List.set_cons_zero, List.set_cons_succ]
  refine wpAnyH_takeAt (i := 2) (v := ?_) rfl (by kernel_rfl) (by kernel_rfl) (by kernel_rfl) (fun _ _ _ h => h) (Or.inl ⟨by rfl, ?_⟩) s0 ?_
  rotate_left 1
  · intro w' hS; obtain ⟨x0, x1, x2, x3, x4, x5⟩ := hS.ins; have rr := hS.box.reg i hi; clear hS
    go_simp <;> with_reducible rfl
  try simp only [Act.put, List.setIfInBounds_toArray, List.set_cons_zero, List.set_cons_succ]
  refine wpAnyH_takeAt (i := 3) (v := ?_) rfl (by kernel_rfl) (by kernel_rfl) (by kernel_rfl) (fun _ _ _ h => h) (Or.inl ⟨by rfl, ?_⟩) s0 ?_
  rotate_left 1
  · intro w' hS; obtain ⟨x0, x1, x2, x3, x4, x5⟩ := hS.ins; have rr := hS.box.reg i hi; clear hS
    go_simp <;> with_reducible rfl
  try simp only [Act.put, List.setIfInBounds_toArray, List.set_cons_zero, List.set_cons_succ]
  refine wpAnyH_takeAt (i := 4) (v := ?_) rfl (by kernel_rfl) (by kernel_rfl) (by kernel_rfl) (fun _ _ _ h => h) (Or.inl ⟨by rfl, ?_⟩) s0 ?_
  rotate_left 1
  · intro w' hS; obtain ⟨x0, x1, x2, x3, x4, x5⟩ := hS.ins; have rr := hS.box.reg i hi; clear hS
    go_simp <;> with_reducible rfl
  try simp only [Act.put, List.setIfInBounds_toArray, List.set_cons_zero, List.set_cons_succ]
  refine wpAnyH_takeAt (i := 5) (v := ?_) rfl (by kernel_rfl) (by kernel_rfl) (by kernel_rfl) (fun _ _ _ h => h) (Or.inl ⟨by rfl, ?_⟩) s0 ?_
  rotate_left 1
  · intro w' hS; obtain ⟨x0, x1, x2, x3, x4, x5⟩ := hS.ins; have rr := hS.box.reg i hi; clear hS
    go_simp <;> with_reducible rfl
  try simp only [Act.put, List.setIfInBounds_toArray, List.set_cons_zero, List.set_cons_succ]
  refine wpAnyH_takeAt (i := 6) (v := ?_) rfl (by kernel_rfl) (by kernel_rfl) (by kernel_rfl) (fun _ _ _ h => h) (Or.inl ⟨by rfl, ?_⟩) s0 ?_
  rotate_left 1
  · intro w' hS; obtain ⟨x0, x1, x2, x3, x4, x5⟩ := hS.ins; have rr := hS.box.reg i hi; clear hS
    go_simp <;> with_reducible rfl
  try simp only [Act.put, List.setIfInBounds_toArray, List.set_cons_zero, List.set_cons_succ]
  refine wpAnyH_takeAt (i := 7) (v := .int .u32 ((numb imm).toNat : Int)) rfl (by kernel_rfl) (by kernel_rfl) (by kernel_rfl) (fun _ _ _ h => h) (Or.inl ⟨by rfl, ?_⟩) s0 ?_
  · intro w' hS; obtain ⟨x0, x1, x2, x3, x4, x5⟩ := hS.ins; have rr := hS.box.reg i hi; clear hS
    go_simp
  try simp only [Act.put, List.setIfInBounds_toArray, List.set_cons_zero, List.set_cons_succ]
  refine wpAnyH_takeAt (i := 8) (v := .int .u32 (Z.toNat : Int)) rfl (by kernel_rfl) (by kernel_rfl) (by kernel_rfl) (fun _ _ _ h => h) (Or.inl ⟨by rfl, ?_⟩) s0 ?_
  · intro w' hS; obtain ⟨x0, x1, x2, x3, x4, x5⟩ := hS.ins; have rr := hS.box.reg i hi; clear hS
    go_simp
  try simp only [Act.put, List.setIfInBounds_toArray, List.set_cons_zero, List.set_cons_succ]
  refine wpAnyH_takeAt (i := 9) (v := ?_) rfl (by kernel_rfl) (by kernel_rfl) (by kernel_rfl) (fun _ _ _ h => h) (Or.inl ⟨by rfl, ?_⟩) s0 ?_
  rotate_left 1
  · intro w' hS; clear hS
    go_simp <;> with_reducible rfl
  try simp only [Act.put, List.setIfInBounds_toArray, List.set_cons_zero, List.set_cons_succ]
  refine wpAnyH_done (by kernel_rfl) ?_ _
  refine NoPanic.normal ?_
  obtain ⟨x0, x1, x2, x3, x4, x5⟩ := D1.ins
  have hZb := Wd.lt Z
  clear hZ hZ' hn hn'
  by_cases hA : (Z.toNat : Int) % 1 = 0
  · have hok : accOk c 13 i imm = true := by unfold accOk; rw [HA.out]; simp [wN]
    have HM := hideC (show accE c 13 i imm = 0 by unfold accE; rw [if_pos hok])
    have tA : ((Z.toNat : Int).tmod 1 != 0) = false := by simp
    have tA2 : ((Z.toNat : Int) % 1 != 0) = false := by simp
    have hfm : ((frm 13 : Nat) : Int) = 73 := by decide
    go_wp2_with fail
    have hfrm := rform_any 13 w1.drew
    rw [hfm] at hfrm
    refine hfrm.mono ?_
    rintro e w2 ⟨rfl, rfl⟩
    go_wp2_with fail
    refine (rload_any w1.drew r2 ⟨by omega, hZb⟩ (Or.inl rfl)).mono ?_
    rintro e w3 ⟨rfl, rfl⟩
    obtain ⟨Vv, hVv, HVv⟩ := num_word h.rise (Z.toNat : Int) 1 (by omega)
    have HV := hideC HVv
    rw [show num l (Z.toNat : Int) (Int.toNat 1) = (Vv.toNat : Int) from hVv]
    clear hVv HVv
    have D4 := D1
    have r4 := r2
    have eV := hideC (show Vv = loadV l Z 13 by unfold loadV; rw [show wS 13 = 32 from rfl, sign32, HV.out]; rfl)
    go_wp2_with (first | (refine wpList_load_rowG (by rfl) 25 _ rfl w.heap.size rfl _ _ _ _ D4.box Tryz.underlying25 rfl (infoCs _) ?_))
    refine (rset4_any c rd hrd0 hrd1 Vv _).mono ?_
    rintro e w5 ⟨rfl, hb5⟩
    have D5 := D4.below hb5
    have r5 := r4.below hb5
    clear x0 x1 x2 x3 x4 x5
    go_wp2_with (first | (refine wpList_store_row rfl 25 _ _ rfl (w.heap.size + 2) _ rfl rfl _ _ D5.res (infoCs _) (cells_same _ _) (cells_one _) ?_))
    have eM : accM c l 13 rd i imm = onw c rd Vv := by unfold accM; rw [if_pos hok, if_neg (by decide), HA.out, eV.out]
    have eL : accL c l 13 i j imm = l := by unfold accL; rw [if_neg (fun hh => absurd hh.2 (by decide))]
    have lo : Below w.heap.size w (w5.setRow (w.heap.size + 2) (cells (onw c rd Vv))) := below_row D5.low (by omega) _
    rw [eM, HM.out, eL]
    exact bodyPost_ret (results_row_tmp (p := 6) (u := 7) (by kernel_rfl) _ _ (w.heap.size + 2) _ _ _ _ rfl (D5.res.setRow _) Tryz.underlying25 rfl (infoCs _)) rfl ⟨rfl, h.below lo, grown_of_below lo⟩
  · exact absurd (Int.emod_one _) hA

set_option maxRecDepth 100000 in
set_option maxHeartbeats 4000000 in
theorem raccess_14 {B kb : Nat} {l : Cs} (c : Mach) (rd : Int) (i j : Nat) (imm : Int) (hi : i < 32) (hj : j < 32) (hrd0 : 0 ≤ rd) (hrd1 : rd < 32) (w : World) (h : RefAt w B kb l) (hB : B ≤ w.heap.size) :
    Calls Tryz.prog 28 #[.agg (cells c), .pointer (some ⟨kb, 0, none⟩), .agg #[.int .i64 14, .int .i64 rd, .int .i64 (i : Int), .int .i64 (j : Int), .int .i64 imm]] w fun e w' => e = .returned (.tuple #[.agg (cells (accM c l 14 rd i imm)), .int .i64 (accE c 14 i imm)]) ∧ RefAt w' B kb (accL c l 14 i j imm) ∧ w.grownBy w' (some kb) := by
  have hz := zeroC
  obtain ⟨Z, hZ, hZ', HZ⟩ := bump (c.x i) (numb imm)
  have HA := hideC (accA_is HZ.out)
  have hn := numb_cut imm
  have hn' : IntKind.u32.wrap imm = ((numb imm).toNat : Int) := numb_cut imm
  have hiI : (i : Int) < 32 := by omega
  have hjI : (j : Int) < 32 := by omega
  have D0 := doesAt_start w c 14 rd i j imm
  have hkb := h.lt
  go_enter Tryz.func28, Tryz.ntmps28
  go_upto_region 1 with fail
  generalize ((w.alloc (.cells (cells c) 25)).alloc (.cells #[.int .i64 14, .int .i64 rd, .int .i64 (i : Int), .int .i64 (j : Int), .int .i64 imm] 55)).alloc (.cells (cells nought) 25) = w1 at D0 ⊢
  have r1 := h.below D0.low
  obtain ⟨x0, x1, x2, x3, x4, x5⟩ := D0.ins
  go_upto_region 6 with fail
  have D1 : DoesAt w c nought 14 rd i j imm w1.drew := D0.below (drewN_low w1 1 _)
  have r2 : RefAt w1.drew B kb l := r1.below (drewN_low w1 1 _)
  clear D0 r1 x0 x1 x2 x3 x4 x5
  refine wp_region_noPanic ?_
  refine wp_region_held_drew (S := DoesAt w c nought 14 rd i j imm) (by kernel_rfl) D1 (fun s0 => ?_)
  refine wpAnyH_takeAt (i := 0) (v := ?_) rfl (by kernel_rfl) (by kernel_rfl) (by kernel_rfl) (fun _ _ _ h => h) (Or.inl ⟨by rfl, ?_⟩) s0 ?_
  rotate_left 1
  · intro w' hS; obtain ⟨x0, x1, x2, x3, x4, x5⟩ := hS.ins; have rr := hS.box.reg i hi; clear hS
    go_simp <;> with_reducible rfl
  try simp only [Act.put, List.setIfInBounds_toArray, List.set_cons_zero, List.set_cons_succ]
  refine wpAnyH_takeAt (i := 1) (v := ?_) rfl (by kernel_rfl) (by kernel_rfl) (by kernel_rfl) (fun _ _ _ h => h) (Or.inl ⟨by rfl, ?_⟩) s0 ?_
  rotate_left 1
  · intro w' hS; obtain ⟨x0, x1, x2, x3, x4, x5⟩ := hS.ins; have rr := hS.box.reg i hi; clear hS
    go_simp <;> with_reducible rfl
  try simp only [Act.put, List.setIfInBounds_toArray, List.set_cons_zero, List.set_cons_succ]
  refine wpAnyH_takeAt (i := 2) (v := ?_) rfl (by kernel_rfl) (by kernel_rfl) (by kernel_rfl) (fun _ _ _ h => h) (Or.inl ⟨by rfl, ?_⟩) s0 ?_
  rotate_left 1
  · intro w' hS; obtain ⟨x0, x1, x2, x3, x4, x5⟩ := hS.ins; have rr := hS.box.reg i hi; clear hS
    go_simp <;> with_reducible rfl
  try simp only [Act.put, List.setIfInBounds_toArray, List.set_cons_zero, List.set_cons_succ]
  refine wpAnyH_takeAt (i := 3) (v := ?_) rfl (by kernel_rfl) (by kernel_rfl) (by kernel_rfl) (fun _ _ _ h => h) (Or.inl ⟨by rfl, ?_⟩) s0 ?_
  rotate_left 1
  · intro w' hS; obtain ⟨x0, x1, x2, x3, x4, x5⟩ := hS.ins; have rr := hS.box.reg i hi; clear hS
    go_simp <;> with_reducible rfl
  try simp only [Act.put, List.setIfInBounds_toArray, List.set_cons_zero, List.set_cons_succ]
  refine wpAnyH_takeAt (i := 4) (v := ?_) rfl (by kernel_rfl) (by kernel_rfl) (by kernel_rfl) (fun _ _ _ h => h) (Or.inl ⟨by rfl, ?_⟩) s0 ?_
  rotate_left 1
  · intro w' hS; obtain ⟨x0, x1, x2, x3, x4, x5⟩ := hS.ins; have rr := hS.box.reg i hi; clear hS
    go_simp <;> with_reducible rfl
  try simp only [Act.put, List.setIfInBounds_toArray, List.set_cons_zero, List.set_cons_succ]
  refine wpAnyH_takeAt (i := 5) (v := ?_) rfl (by kernel_rfl) (by kernel_rfl) (by kernel_rfl) (fun _ _ _ h => h) (Or.inl ⟨by rfl, ?_⟩) s0 ?_
  rotate_left 1
  · intro w' hS; obtain ⟨x0, x1, x2, x3, x4, x5⟩ := hS.ins; have rr := hS.box.reg i hi; clear hS
    go_simp <;> with_reducible rfl
  try simp only [Act.put, List.setIfInBounds_toArray, List.set_cons_zero, List.set_cons_succ]
  refine wpAnyH_takeAt (i := 6) (v := ?_) rfl (by kernel_rfl) (by kernel_rfl) (by kernel_rfl) (fun _ _ _ h => h) (Or.inl ⟨by rfl, ?_⟩) s0 ?_
  rotate_left 1
  · intro w' hS; obtain ⟨x0, x1, x2, x3, x4, x5⟩ := hS.ins; have rr := hS.box.reg i hi; clear hS
    go_simp <;> with_reducible rfl
  try simp only [Act.put, List.setIfInBounds_toArray, List.set_cons_zero, List.set_cons_succ]
  refine wpAnyH_takeAt (i := 7) (v := .int .u32 ((numb imm).toNat : Int)) rfl (by kernel_rfl) (by kernel_rfl) (by kernel_rfl) (fun _ _ _ h => h) (Or.inl ⟨by rfl, ?_⟩) s0 ?_
  · intro w' hS; obtain ⟨x0, x1, x2, x3, x4, x5⟩ := hS.ins; have rr := hS.box.reg i hi; clear hS
    go_simp
  try simp only [Act.put, List.setIfInBounds_toArray, List.set_cons_zero, List.set_cons_succ]
  refine wpAnyH_takeAt (i := 8) (v := .int .u32 (Z.toNat : Int)) rfl (by kernel_rfl) (by kernel_rfl) (by kernel_rfl) (fun _ _ _ h => h) (Or.inl ⟨by rfl, ?_⟩) s0 ?_
  · intro w' hS; obtain ⟨x0, x1, x2, x3, x4, x5⟩ := hS.ins; have rr := hS.box.reg i hi; clear hS
    go_simp
  try simp only [Act.put, List.setIfInBounds_toArray, List.set_cons_zero, List.set_cons_succ]
  refine wpAnyH_takeAt (i := 9) (v := ?_) rfl (by kernel_rfl) (by kernel_rfl) (by kernel_rfl) (fun _ _ _ h => h) (Or.inl ⟨by rfl, ?_⟩) s0 ?_
  rotate_left 1
  · intro w' hS; clear hS
    go_simp <;> with_reducible rfl
  try simp only [Act.put, List.setIfInBounds_toArray, List.set_cons_zero, List.set_cons_succ]
  refine wpAnyH_done (by kernel_rfl) ?_ _
  refine NoPanic.normal ?_
  obtain ⟨x0, x1, x2, x3, x4, x5⟩ := D1.ins
  have hZb := Wd.lt Z
  clear hZ hZ' hn hn'
  by_cases hA : (Z.toNat : Int) % 2 = 0
  · have hok : accOk c 14 i imm = true := by unfold accOk; rw [HA.out]; simpa [wN] using hA
    have HM := hideC (show accE c 14 i imm = 0 by unfold accE; rw [if_pos hok])
    have tA : ((Z.toNat : Int).tmod 2 != 0) = false := by rw [Int.tmod_eq_emod_of_nonneg (by omega)]; simpa using hA
    have tA2 : ((Z.toNat : Int) % 2 != 0) = false := by simpa using hA
    have hfm : ((frm 14 : Nat) : Int) = 73 := by decide
    go_wp2_with fail
    have hfrm := rform_any 14 w1.drew
    rw [hfm] at hfrm
    refine hfrm.mono ?_
    rintro e w2 ⟨rfl, rfl⟩
    go_wp2_with fail
    refine (rload_any w1.drew r2 ⟨by omega, hZb⟩ (Or.inr (Or.inl rfl))).mono ?_
    rintro e w3 ⟨rfl, rfl⟩
    obtain ⟨Vv, hVv, HVv⟩ := num_word h.rise (Z.toNat : Int) 2 (by omega)
    have HV := hideC HVv
    rw [show num l (Z.toNat : Int) (Int.toNat 2) = (Vv.toNat : Int) from hVv]
    clear hVv HVv
    have D4 := D1
    have r4 := r2
    have eV := hideC (show Vv = loadV l Z 14 by unfold loadV; rw [show wS 14 = 32 from rfl, sign32, HV.out]; rfl)
    go_wp2_with (first | (refine wpList_load_rowG (by rfl) 25 _ rfl w.heap.size rfl _ _ _ _ D4.box Tryz.underlying25 rfl (infoCs _) ?_))
    refine (rset4_any c rd hrd0 hrd1 Vv _).mono ?_
    rintro e w5 ⟨rfl, hb5⟩
    have D5 := D4.below hb5
    have r5 := r4.below hb5
    clear x0 x1 x2 x3 x4 x5
    go_wp2_with (first | (refine wpList_store_row rfl 25 _ _ rfl (w.heap.size + 2) _ rfl rfl _ _ D5.res (infoCs _) (cells_same _ _) (cells_one _) ?_))
    have eM : accM c l 14 rd i imm = onw c rd Vv := by unfold accM; rw [if_pos hok, if_neg (by decide), HA.out, eV.out]
    have eL : accL c l 14 i j imm = l := by unfold accL; rw [if_neg (fun hh => absurd hh.2 (by decide))]
    have lo : Below w.heap.size w (w5.setRow (w.heap.size + 2) (cells (onw c rd Vv))) := below_row D5.low (by omega) _
    rw [eM, HM.out, eL]
    exact bodyPost_ret (results_row_tmp (p := 6) (u := 7) (by kernel_rfl) _ _ (w.heap.size + 2) _ _ _ _ rfl (D5.res.setRow _) Tryz.underlying25 rfl (infoCs _)) rfl ⟨rfl, h.below lo, grown_of_below lo⟩
  · have hok : ¬ accOk c 14 i imm = true := by unfold accOk; rw [HA.out]; simpa [wN] using hA
    have tA : ((Z.toNat : Int).tmod 2 != 0) = true := by rw [Int.tmod_eq_emod_of_nonneg (by omega)]; simpa using hA
    have tA2 : ((Z.toNat : Int) % 2 != 0) = true := by simpa using hA
    have eM : accM c l 14 rd i imm = c := by unfold accM; rw [if_neg hok]
    have eE : accE c 14 i imm = 5 := by unfold accE; rw [if_neg hok]
    have eL : accL c l 14 i j imm = l := by unfold accL; rw [if_neg (fun hh => hok hh.1)]
    have H3 := hideC (And.intro eM (And.intro eE eL))
    clear eM eE eL hok
    go_wp2_with (first | (refine wpList_load_rowG (by rfl) 25 _ rfl w.heap.size rfl _ _ _ _ D1.box Tryz.underlying25 rfl (infoCs _) ?_) | (refine wpList_store_row rfl 25 _ _ rfl (w.heap.size + 2) _ rfl rfl _ _ D1.res (infoCs _) (cells_same _ _) (cells_one _) ?_))
    have lo : Below w.heap.size w (w1.drew.setRow (w.heap.size + 2) (cells c)) := below_row D1.low (by omega) _
    rw [H3.out.1, H3.out.2.1, H3.out.2.2]
    exact bodyPost_ret (results_row_tmp (p := 6) (u := 7) (by kernel_rfl) _ _ (w.heap.size + 2) _ _ _ _ rfl (D1.res.setRow _) Tryz.underlying25 rfl (infoCs _)) rfl ⟨rfl, h.below lo, grown_of_below lo⟩

set_option maxRecDepth 100000 in
set_option maxHeartbeats 4000000 in
theorem raccess_15 {B kb : Nat} {l : Cs} (c : Mach) (rd : Int) (i j : Nat) (imm : Int) (hi : i < 32) (hj : j < 32) (hrd0 : 0 ≤ rd) (hrd1 : rd < 32) (w : World) (h : RefAt w B kb l) (hB : B ≤ w.heap.size) :
    Calls Tryz.prog 28 #[.agg (cells c), .pointer (some ⟨kb, 0, none⟩), .agg #[.int .i64 15, .int .i64 rd, .int .i64 (i : Int), .int .i64 (j : Int), .int .i64 imm]] w fun e w' => e = .returned (.tuple #[.agg (cells (accM c l 15 rd i imm)), .int .i64 (accE c 15 i imm)]) ∧ RefAt w' B kb (accL c l 15 i j imm) ∧ w.grownBy w' (some kb) := by
  have hz := zeroC
  obtain ⟨Z, hZ, hZ', HZ⟩ := bump (c.x i) (numb imm)
  have HA := hideC (accA_is HZ.out)
  have hn := numb_cut imm
  have hn' : IntKind.u32.wrap imm = ((numb imm).toNat : Int) := numb_cut imm
  have hiI : (i : Int) < 32 := by omega
  have hjI : (j : Int) < 32 := by omega
  have D0 := doesAt_start w c 15 rd i j imm
  have hkb := h.lt
  go_enter Tryz.func28, Tryz.ntmps28
  go_upto_region 1 with fail
  generalize ((w.alloc (.cells (cells c) 25)).alloc (.cells #[.int .i64 15, .int .i64 rd, .int .i64 (i : Int), .int .i64 (j : Int), .int .i64 imm] 55)).alloc (.cells (cells nought) 25) = w1 at D0 ⊢
  have r1 := h.below D0.low
  obtain ⟨x0, x1, x2, x3, x4, x5⟩ := D0.ins
  go_upto_region 6 with fail
  have D1 : DoesAt w c nought 15 rd i j imm w1.drew := D0.below (drewN_low w1 1 _)
  have r2 : RefAt w1.drew B kb l := r1.below (drewN_low w1 1 _)
  clear D0 r1 x0 x1 x2 x3 x4 x5
  refine wp_region_noPanic ?_
  refine wp_region_held_drew (S := DoesAt w c nought 15 rd i j imm) (by kernel_rfl) D1 (fun s0 => ?_)
  refine wpAnyH_takeAt (i := 0) (v := ?_) rfl (by kernel_rfl) (by kernel_rfl) (by kernel_rfl) (fun _ _ _ h => h) (Or.inl ⟨by rfl, ?_⟩) s0 ?_
  rotate_left 1
  · intro w' hS; obtain ⟨x0, x1, x2, x3, x4, x5⟩ := hS.ins; have rr := hS.box.reg i hi; clear hS
    go_simp <;> with_reducible rfl
  try simp only [Act.put, List.setIfInBounds_toArray, List.set_cons_zero, List.set_cons_succ]
  refine wpAnyH_takeAt (i := 1) (v := ?_) rfl (by kernel_rfl) (by kernel_rfl) (by kernel_rfl) (fun _ _ _ h => h) (Or.inl ⟨by rfl, ?_⟩) s0 ?_
  rotate_left 1
  · intro w' hS; obtain ⟨x0, x1, x2, x3, x4, x5⟩ := hS.ins; have rr := hS.box.reg i hi; clear hS
    go_simp <;> with_reducible rfl
  try simp only [Act.put, List.setIfInBounds_toArray, List.set_cons_zero, List.set_cons_succ]
  refine wpAnyH_takeAt (i := 2) (v := ?_) rfl (by kernel_rfl) (by kernel_rfl) (by kernel_rfl) (fun _ _ _ h => h) (Or.inl ⟨by rfl, ?_⟩) s0 ?_
  rotate_left 1
  · intro w' hS; obtain ⟨x0, x1, x2, x3, x4, x5⟩ := hS.ins; have rr := hS.box.reg i hi; clear hS
    go_simp <;> with_reducible rfl
  try simp only [Act.put, List.setIfInBounds_toArray, List.set_cons_zero, List.set_cons_succ]
  refine wpAnyH_takeAt (i := 3) (v := ?_) rfl (by kernel_rfl) (by kernel_rfl) (by kernel_rfl) (fun _ _ _ h => h) (Or.inl ⟨by rfl, ?_⟩) s0 ?_
  rotate_left 1
  · intro w' hS; obtain ⟨x0, x1, x2, x3, x4, x5⟩ := hS.ins; have rr := hS.box.reg i hi; clear hS
    go_simp <;> with_reducible rfl
  try simp only [Act.put, List.setIfInBounds_toArray, List.set_cons_zero, List.set_cons_succ]
  refine wpAnyH_takeAt (i := 4) (v := ?_) rfl (by kernel_rfl) (by kernel_rfl) (by kernel_rfl) (fun _ _ _ h => h) (Or.inl ⟨by rfl, ?_⟩) s0 ?_
  rotate_left 1
  · intro w' hS; obtain ⟨x0, x1, x2, x3, x4, x5⟩ := hS.ins; have rr := hS.box.reg i hi; clear hS
    go_simp <;> with_reducible rfl
  try simp only [Act.put, List.setIfInBounds_toArray, List.set_cons_zero, List.set_cons_succ]
  refine wpAnyH_takeAt (i := 5) (v := ?_) rfl (by kernel_rfl) (by kernel_rfl) (by kernel_rfl) (fun _ _ _ h => h) (Or.inl ⟨by rfl, ?_⟩) s0 ?_
  rotate_left 1
  · intro w' hS; obtain ⟨x0, x1, x2, x3, x4, x5⟩ := hS.ins; have rr := hS.box.reg i hi; clear hS
    go_simp <;> with_reducible rfl
  try simp only [Act.put, List.setIfInBounds_toArray, List.set_cons_zero, List.set_cons_succ]
  refine wpAnyH_takeAt (i := 6) (v := ?_) rfl (by kernel_rfl) (by kernel_rfl) (by kernel_rfl) (fun _ _ _ h => h) (Or.inl ⟨by rfl, ?_⟩) s0 ?_
  rotate_left 1
  · intro w' hS; obtain ⟨x0, x1, x2, x3, x4, x5⟩ := hS.ins; have rr := hS.box.reg i hi; clear hS
    go_simp <;> with_reducible rfl
  try simp only [Act.put, List.setIfInBounds_toArray, List.set_cons_zero, List.set_cons_succ]
  refine wpAnyH_takeAt (i := 7) (v := .int .u32 ((numb imm).toNat : Int)) rfl (by kernel_rfl) (by kernel_rfl) (by kernel_rfl) (fun _ _ _ h => h) (Or.inl ⟨by rfl, ?_⟩) s0 ?_
  · intro w' hS; obtain ⟨x0, x1, x2, x3, x4, x5⟩ := hS.ins; have rr := hS.box.reg i hi; clear hS
    go_simp
  try simp only [Act.put, List.setIfInBounds_toArray, List.set_cons_zero, List.set_cons_succ]
  refine wpAnyH_takeAt (i := 8) (v := .int .u32 (Z.toNat : Int)) rfl (by kernel_rfl) (by kernel_rfl) (by kernel_rfl) (fun _ _ _ h => h) (Or.inl ⟨by rfl, ?_⟩) s0 ?_
  · intro w' hS; obtain ⟨x0, x1, x2, x3, x4, x5⟩ := hS.ins; have rr := hS.box.reg i hi; clear hS
    go_simp
  try simp only [Act.put, List.setIfInBounds_toArray, List.set_cons_zero, List.set_cons_succ]
  refine wpAnyH_takeAt (i := 9) (v := ?_) rfl (by kernel_rfl) (by kernel_rfl) (by kernel_rfl) (fun _ _ _ h => h) (Or.inl ⟨by rfl, ?_⟩) s0 ?_
  rotate_left 1
  · intro w' hS; clear hS
    go_simp <;> with_reducible rfl
  try simp only [Act.put, List.setIfInBounds_toArray, List.set_cons_zero, List.set_cons_succ]
  refine wpAnyH_done (by kernel_rfl) ?_ _
  refine NoPanic.normal ?_
  obtain ⟨x0, x1, x2, x3, x4, x5⟩ := D1.ins
  have hZb := Wd.lt Z
  clear hZ hZ' hn hn'
  by_cases hA : (Z.toNat : Int) % 1 = 0
  · have hok : accOk c 15 i imm = true := by unfold accOk; rw [HA.out]; simp [wN]
    have HM := hideC (show accE c 15 i imm = 0 by unfold accE; rw [if_pos hok])
    have tA : ((Z.toNat : Int).tmod 1 != 0) = false := by simp
    have tA2 : ((Z.toNat : Int) % 1 != 0) = false := by simp
    have hfm : ((frm 15 : Nat) : Int) = 83 := by decide
    go_wp2_with fail
    have hfrm := rform_any 15 w1.drew
    rw [hfm] at hfrm
    refine hfrm.mono ?_
    rintro e w2 ⟨rfl, rfl⟩
    have rj := D1.box.reg j hj
    go_wp2_with fail
    refine (rstore_any w1.drew r2 ⟨by omega, hZb⟩ (Or.inl rfl) ⟨by omega, Wd.lt _⟩ (Nat.le_trans hB D1.low.size)).mono ?_
    rintro e w3 ⟨rfl, r3, g3⟩
    have b3 := Box.grown D1.box g3 (by omega)
    have c3 := Box.grown D1.res g3 (by omega)
    have lo3 : w.grownBy w3 (some kb) := below_then D1.low g3
    have hs3 := g3.size
    clear x0 x1 x2 x3 x4 x5 rj
    go_wp2_with (first | (refine wpList_load_rowG (by rfl) 25 _ rfl w.heap.size rfl _ _ _ _ b3 Tryz.underlying25 rfl (infoCs _) ?_))
    refine (rset4_any c 0 (by omega) (by omega) (BitVec.ofNat 32 0) w3).mono ?_
    rintro e w4 ⟨rfl, hb4⟩
    have c4 := c3.below hb4
    have r4 := r3.below hb4
    have lo4 := grown_then lo3 (hb4.mono lo3.size)
    clear b3 c3 r3
    go_wp2_with (first | (refine wpList_store_row rfl 25 _ _ rfl (w.heap.size + 2) _ rfl rfl _ _ c4 (infoCs _) (cells_same _ _) (cells_one _) ?_))
    have eM : accM c l 15 rd i imm = onw c 0 (BitVec.ofNat 32 0) := by unfold accM; rw [if_pos hok, if_pos (by decide), onw_zero]
    have eL : accL c l 15 i j imm = sto l (Z.toNat : Int) ((c.x j).toNat : Int) 1 := by unfold accL; rw [if_pos ⟨hok, by decide⟩, HA.out]; rfl
    have lo5 : ∀ cs, Below w.heap.size w4 (w4.setRow (w.heap.size + 2) cs) := fun cs => below_row (Below.refl _ _) (by omega) _
    rw [eM, HM.out, eL]
    exact bodyPost_ret (results_row_tmp (p := 6) (u := 7) (by kernel_rfl) _ _ (w.heap.size + 2) _ _ _ _ rfl (c4.setRow _) Tryz.underlying25 rfl (infoCs _)) rfl ⟨rfl, refAt_box r4 c4 _, grown_then lo4 (lo5 _)⟩
  · exact absurd (Int.emod_one _) hA

set_option maxRecDepth 100000 in
set_option maxHeartbeats 4000000 in
theorem raccess_16 {B kb : Nat} {l : Cs} (c : Mach) (rd : Int) (i j : Nat) (imm : Int) (hi : i < 32) (hj : j < 32) (hrd0 : 0 ≤ rd) (hrd1 : rd < 32) (w : World) (h : RefAt w B kb l) (hB : B ≤ w.heap.size) :
    Calls Tryz.prog 28 #[.agg (cells c), .pointer (some ⟨kb, 0, none⟩), .agg #[.int .i64 16, .int .i64 rd, .int .i64 (i : Int), .int .i64 (j : Int), .int .i64 imm]] w fun e w' => e = .returned (.tuple #[.agg (cells (accM c l 16 rd i imm)), .int .i64 (accE c 16 i imm)]) ∧ RefAt w' B kb (accL c l 16 i j imm) ∧ w.grownBy w' (some kb) := by
  have hz := zeroC
  obtain ⟨Z, hZ, hZ', HZ⟩ := bump (c.x i) (numb imm)
  have HA := hideC (accA_is HZ.out)
  have hn := numb_cut imm
  have hn' : IntKind.u32.wrap imm = ((numb imm).toNat : Int) := numb_cut imm
  have hiI : (i : Int) < 32 := by omega
  have hjI : (j : Int) < 32 := by omega
  have D0 := doesAt_start w c 16 rd i j imm
  have hkb := h.lt
  go_enter Tryz.func28, Tryz.ntmps28
  go_upto_region 1 with fail
  generalize ((w.alloc (.cells (cells c) 25)).alloc (.cells #[.int .i64 16, .int .i64 rd, .int .i64 (i : Int), .int .i64 (j : Int), .int .i64 imm] 55)).alloc (.cells (cells nought) 25) = w1 at D0 ⊢
  have r1 := h.below D0.low
  obtain ⟨x0, x1, x2, x3, x4, x5⟩ := D0.ins
  go_upto_region 6 with fail
  have D1 : DoesAt w c nought 16 rd i j imm w1.drew := D0.below (drewN_low w1 1 _)
  have r2 : RefAt w1.drew B kb l := r1.below (drewN_low w1 1 _)
  clear D0 r1 x0 x1 x2 x3 x4 x5
  refine wp_region_noPanic ?_
  refine wp_region_held_drew (S := DoesAt w c nought 16 rd i j imm) (by kernel_rfl) D1 (fun s0 => ?_)
  refine wpAnyH_takeAt (i := 0) (v := ?_) rfl (by kernel_rfl) (by kernel_rfl) (by kernel_rfl) (fun _ _ _ h => h) (Or.inl ⟨by rfl, ?_⟩) s0 ?_
  rotate_left 1
  · intro w' hS; obtain ⟨x0, x1, x2, x3, x4, x5⟩ := hS.ins; have rr := hS.box.reg i hi; clear hS
    go_simp <;> with_reducible rfl
  try simp only [Act.put, List.setIfInBounds_toArray, List.set_cons_zero, List.set_cons_succ]
  refine wpAnyH_takeAt (i := 1) (v := ?_) rfl (by kernel_rfl) (by kernel_rfl) (by kernel_rfl) (fun _ _ _ h => h) (Or.inl ⟨by rfl, ?_⟩) s0 ?_
  rotate_left 1
  · intro w' hS; obtain ⟨x0, x1, x2, x3, x4, x5⟩ := hS.ins; have rr := hS.box.reg i hi; clear hS
    go_simp <;> with_reducible rfl
  try simp only [Act.put, List.setIfInBounds_toArray, List.set_cons_zero, List.set_cons_succ]
  refine wpAnyH_takeAt (i := 2) (v := ?_) rfl (by kernel_rfl) (by kernel_rfl) (by kernel_rfl) (fun _ _ _ h => h) (Or.inl ⟨by rfl, ?_⟩) s0 ?_
  rotate_left 1
  · intro w' hS; obtain ⟨x0, x1, x2, x3, x4, x5⟩ := hS.ins; have rr := hS.box.reg i hi; clear hS
    go_simp <;> with_reducible rfl
  try simp only [Act.put, List.setIfInBounds_toArray, List.set_cons_zero, List.set_cons_succ]
  refine wpAnyH_takeAt (i := 3) (v := ?_) rfl (by kernel_rfl) (by kernel_rfl) (by kernel_rfl) (fun _ _ _ h => h) (Or.inl ⟨by rfl, ?_⟩) s0 ?_
  rotate_left 1
  · intro w' hS; obtain ⟨x0, x1, x2, x3, x4, x5⟩ := hS.ins; have rr := hS.box.reg i hi; clear hS
    go_simp <;> with_reducible rfl
  try simp only [Act.put, List.setIfInBounds_toArray, List.set_cons_zero, List.set_cons_succ]
  refine wpAnyH_takeAt (i := 4) (v := ?_) rfl (by kernel_rfl) (by kernel_rfl) (by kernel_rfl) (fun _ _ _ h => h) (Or.inl ⟨by rfl, ?_⟩) s0 ?_
  rotate_left 1
  · intro w' hS; obtain ⟨x0, x1, x2, x3, x4, x5⟩ := hS.ins; have rr := hS.box.reg i hi; clear hS
    go_simp <;> with_reducible rfl
  try simp only [Act.put, List.setIfInBounds_toArray, List.set_cons_zero, List.set_cons_succ]
  refine wpAnyH_takeAt (i := 5) (v := ?_) rfl (by kernel_rfl) (by kernel_rfl) (by kernel_rfl) (fun _ _ _ h => h) (Or.inl ⟨by rfl, ?_⟩) s0 ?_
  rotate_left 1
  · intro w' hS; obtain ⟨x0, x1, x2, x3, x4, x5⟩ := hS.ins; have rr := hS.box.reg i hi; clear hS
    go_simp <;> with_reducible rfl
  try simp only [Act.put, List.setIfInBounds_toArray, List.set_cons_zero, List.set_cons_succ]
  refine wpAnyH_takeAt (i := 6) (v := ?_) rfl (by kernel_rfl) (by kernel_rfl) (by kernel_rfl) (fun _ _ _ h => h) (Or.inl ⟨by rfl, ?_⟩) s0 ?_
  rotate_left 1
  · intro w' hS; obtain ⟨x0, x1, x2, x3, x4, x5⟩ := hS.ins; have rr := hS.box.reg i hi; clear hS
    go_simp <;> with_reducible rfl
  try simp only [Act.put, List.setIfInBounds_toArray, List.set_cons_zero, List.set_cons_succ]
  refine wpAnyH_takeAt (i := 7) (v := .int .u32 ((numb imm).toNat : Int)) rfl (by kernel_rfl) (by kernel_rfl) (by kernel_rfl) (fun _ _ _ h => h) (Or.inl ⟨by rfl, ?_⟩) s0 ?_
  · intro w' hS; obtain ⟨x0, x1, x2, x3, x4, x5⟩ := hS.ins; have rr := hS.box.reg i hi; clear hS
    go_simp
  try simp only [Act.put, List.setIfInBounds_toArray, List.set_cons_zero, List.set_cons_succ]
  refine wpAnyH_takeAt (i := 8) (v := .int .u32 (Z.toNat : Int)) rfl (by kernel_rfl) (by kernel_rfl) (by kernel_rfl) (fun _ _ _ h => h) (Or.inl ⟨by rfl, ?_⟩) s0 ?_
  · intro w' hS; obtain ⟨x0, x1, x2, x3, x4, x5⟩ := hS.ins; have rr := hS.box.reg i hi; clear hS
    go_simp
  try simp only [Act.put, List.setIfInBounds_toArray, List.set_cons_zero, List.set_cons_succ]
  refine wpAnyH_takeAt (i := 9) (v := ?_) rfl (by kernel_rfl) (by kernel_rfl) (by kernel_rfl) (fun _ _ _ h => h) (Or.inl ⟨by rfl, ?_⟩) s0 ?_
  rotate_left 1
  · intro w' hS; clear hS
    go_simp <;> with_reducible rfl
  try simp only [Act.put, List.setIfInBounds_toArray, List.set_cons_zero, List.set_cons_succ]
  refine wpAnyH_done (by kernel_rfl) ?_ _
  refine NoPanic.normal ?_
  obtain ⟨x0, x1, x2, x3, x4, x5⟩ := D1.ins
  have hZb := Wd.lt Z
  clear hZ hZ' hn hn'
  by_cases hA : (Z.toNat : Int) % 2 = 0
  · have hok : accOk c 16 i imm = true := by unfold accOk; rw [HA.out]; simpa [wN] using hA
    have HM := hideC (show accE c 16 i imm = 0 by unfold accE; rw [if_pos hok])
    have tA : ((Z.toNat : Int).tmod 2 != 0) = false := by rw [Int.tmod_eq_emod_of_nonneg (by omega)]; simpa using hA
    have tA2 : ((Z.toNat : Int) % 2 != 0) = false := by simpa using hA
    have hfm : ((frm 16 : Nat) : Int) = 83 := by decide
    go_wp2_with fail
    have hfrm := rform_any 16 w1.drew
    rw [hfm] at hfrm
    refine hfrm.mono ?_
    rintro e w2 ⟨rfl, rfl⟩
    have rj := D1.box.reg j hj
    go_wp2_with fail
    refine (rstore_any w1.drew r2 ⟨by omega, hZb⟩ (Or.inr (Or.inl rfl)) ⟨by omega, Wd.lt _⟩ (Nat.le_trans hB D1.low.size)).mono ?_
    rintro e w3 ⟨rfl, r3, g3⟩
    have b3 := Box.grown D1.box g3 (by omega)
    have c3 := Box.grown D1.res g3 (by omega)
    have lo3 : w.grownBy w3 (some kb) := below_then D1.low g3
    have hs3 := g3.size
    clear x0 x1 x2 x3 x4 x5 rj
    go_wp2_with (first | (refine wpList_load_rowG (by rfl) 25 _ rfl w.heap.size rfl _ _ _ _ b3 Tryz.underlying25 rfl (infoCs _) ?_))
    refine (rset4_any c 0 (by omega) (by omega) (BitVec.ofNat 32 0) w3).mono ?_
    rintro e w4 ⟨rfl, hb4⟩
    have c4 := c3.below hb4
    have r4 := r3.below hb4
    have lo4 := grown_then lo3 (hb4.mono lo3.size)
    clear b3 c3 r3
    go_wp2_with (first | (refine wpList_store_row rfl 25 _ _ rfl (w.heap.size + 2) _ rfl rfl _ _ c4 (infoCs _) (cells_same _ _) (cells_one _) ?_))
    have eM : accM c l 16 rd i imm = onw c 0 (BitVec.ofNat 32 0) := by unfold accM; rw [if_pos hok, if_pos (by decide), onw_zero]
    have eL : accL c l 16 i j imm = sto l (Z.toNat : Int) ((c.x j).toNat : Int) 2 := by unfold accL; rw [if_pos ⟨hok, by decide⟩, HA.out]; rfl
    have lo5 : ∀ cs, Below w.heap.size w4 (w4.setRow (w.heap.size + 2) cs) := fun cs => below_row (Below.refl _ _) (by omega) _
    rw [eM, HM.out, eL]
    exact bodyPost_ret (results_row_tmp (p := 6) (u := 7) (by kernel_rfl) _ _ (w.heap.size + 2) _ _ _ _ rfl (c4.setRow _) Tryz.underlying25 rfl (infoCs _)) rfl ⟨rfl, refAt_box r4 c4 _, grown_then lo4 (lo5 _)⟩
  · have hok : ¬ accOk c 16 i imm = true := by unfold accOk; rw [HA.out]; simpa [wN] using hA
    have tA : ((Z.toNat : Int).tmod 2 != 0) = true := by rw [Int.tmod_eq_emod_of_nonneg (by omega)]; simpa using hA
    have tA2 : ((Z.toNat : Int) % 2 != 0) = true := by simpa using hA
    have eM : accM c l 16 rd i imm = c := by unfold accM; rw [if_neg hok]
    have eE : accE c 16 i imm = 5 := by unfold accE; rw [if_neg hok]
    have eL : accL c l 16 i j imm = l := by unfold accL; rw [if_neg (fun hh => hok hh.1)]
    have H3 := hideC (And.intro eM (And.intro eE eL))
    clear eM eE eL hok
    go_wp2_with (first | (refine wpList_load_rowG (by rfl) 25 _ rfl w.heap.size rfl _ _ _ _ D1.box Tryz.underlying25 rfl (infoCs _) ?_) | (refine wpList_store_row rfl 25 _ _ rfl (w.heap.size + 2) _ rfl rfl _ _ D1.res (infoCs _) (cells_same _ _) (cells_one _) ?_))
    have lo : Below w.heap.size w (w1.drew.setRow (w.heap.size + 2) (cells c)) := below_row D1.low (by omega) _
    rw [H3.out.1, H3.out.2.1, H3.out.2.2]
    exact bodyPost_ret (results_row_tmp (p := 6) (u := 7) (by kernel_rfl) _ _ (w.heap.size + 2) _ _ _ _ rfl (D1.res.setRow _) Tryz.underlying25 rfl (infoCs _)) rfl ⟨rfl, h.below lo, grown_of_below lo⟩

set_option maxRecDepth 100000 in
set_option maxHeartbeats 4000000 in
theorem raccess_17 {B kb : Nat} {l : Cs} (c : Mach) (rd : Int) (i j : Nat) (imm : Int) (hi : i < 32) (hj : j < 32) (hrd0 : 0 ≤ rd) (hrd1 : rd < 32) (w : World) (h : RefAt w B kb l) (hB : B ≤ w.heap.size) :
    Calls Tryz.prog 28 #[.agg (cells c), .pointer (some ⟨kb, 0, none⟩), .agg #[.int .i64 17, .int .i64 rd, .int .i64 (i : Int), .int .i64 (j : Int), .int .i64 imm]] w fun e w' => e = .returned (.tuple #[.agg (cells (accM c l 17 rd i imm)), .int .i64 (accE c 17 i imm)]) ∧ RefAt w' B kb (accL c l 17 i j imm) ∧ w.grownBy w' (some kb) := by
  have hz := zeroC
  obtain ⟨Z, hZ, hZ', HZ⟩ := bump (c.x i) (numb imm)
  have HA := hideC (accA_is HZ.out)
  have hn := numb_cut imm
  have hn' : IntKind.u32.wrap imm = ((numb imm).toNat : Int) := numb_cut imm
  have hiI : (i : Int) < 32 := by omega
  have hjI : (j : Int) < 32 := by omega
  have D0 := doesAt_start w c 17 rd i j imm
  have hkb := h.lt
  go_enter Tryz.func28, Tryz.ntmps28
  go_upto_region 1 with fail
  generalize ((w.alloc (.cells (cells c) 25)).alloc (.cells #[.int .i64 17, .int .i64 rd, .int .i64 (i : Int), .int .i64 (j : Int), .int .i64 imm] 55)).alloc (.cells (cells nought) 25) = w1 at D0 ⊢
  have r1 := h.below D0.low
  obtain ⟨x0, x1, x2, x3, x4, x5⟩ := D0.ins
  go_upto_region 6 with fail
  have D1 : DoesAt w c nought 17 rd i j imm w1.drew := D0.below (drewN_low w1 1 _)
  have r2 : RefAt w1.drew B kb l := r1.below (drewN_low w1 1 _)
  clear D0 r1 x0 x1 x2 x3 x4 x5
  refine wp_region_noPanic ?_
  refine wp_region_held_drew (S := DoesAt w c nought 17 rd i j imm) (by kernel_rfl) D1 (fun s0 => ?_)
  refine wpAnyH_takeAt (i := 0) (v := ?_) rfl (by kernel_rfl) (by kernel_rfl) (by kernel_rfl) (fun _ _ _ h => h) (Or.inl ⟨by rfl, ?_⟩) s0 ?_
  rotate_left 1
  · intro w' hS; obtain ⟨x0, x1, x2, x3, x4, x5⟩ := hS.ins; have rr := hS.box.reg i hi; clear hS
    go_simp <;> with_reducible rfl
  try simp only [Act.put, List.setIfInBounds_toArray, List.set_cons_zero, List.set_cons_succ]
  refine wpAnyH_takeAt (i := 1) (v := ?_) rfl (by kernel_rfl) (by kernel_rfl) (by kernel_rfl) (fun _ _ _ h => h) (Or.inl ⟨by rfl, ?_⟩) s0 ?_
  rotate_left 1
  · intro w' hS; obtain ⟨x0, x1, x2, x3, x4, x5⟩ := hS.ins; have rr := hS.box.reg i hi; clear hS
    go_simp <;> with_reducible rfl
  try simp only [Act.put, List.setIfInBounds_toArray, List.set_cons_zero, List.set_cons_succ]
  refine wpAnyH_takeAt (i := 2) (v := ?_) rfl (by kernel_rfl) (by kernel_rfl) (by kernel_rfl) (fun _ _ _ h => h) (Or.inl ⟨by rfl, ?_⟩) s0 ?_
  rotate_left 1
  · intro w' hS; obtain ⟨x0, x1, x2, x3, x4, x5⟩ := hS.ins; have rr := hS.box.reg i hi; clear hS
    go_simp <;> with_reducible rfl
  try simp only [Act.put, List.setIfInBounds_toArray, List.set_cons_zero, List.set_cons_succ]
  refine wpAnyH_takeAt (i := 3) (v := ?_) rfl (by kernel_rfl) (by kernel_rfl) (by kernel_rfl) (fun _ _ _ h => h) (Or.inl ⟨by rfl, ?_⟩) s0 ?_
  rotate_left 1
  · intro w' hS; obtain ⟨x0, x1, x2, x3, x4, x5⟩ := hS.ins; have rr := hS.box.reg i hi; clear hS
    go_simp <;> with_reducible rfl
  try simp only [Act.put, List.setIfInBounds_toArray, List.set_cons_zero, List.set_cons_succ]
  refine wpAnyH_takeAt (i := 4) (v := ?_) rfl (by kernel_rfl) (by kernel_rfl) (by kernel_rfl) (fun _ _ _ h => h) (Or.inl ⟨by rfl, ?_⟩) s0 ?_
  rotate_left 1
  · intro w' hS; obtain ⟨x0, x1, x2, x3, x4, x5⟩ := hS.ins; have rr := hS.box.reg i hi; clear hS
    go_simp <;> with_reducible rfl
  try simp only [Act.put, List.setIfInBounds_toArray, List.set_cons_zero, List.set_cons_succ]
  refine wpAnyH_takeAt (i := 5) (v := ?_) rfl (by kernel_rfl) (by kernel_rfl) (by kernel_rfl) (fun _ _ _ h => h) (Or.inl ⟨by rfl, ?_⟩) s0 ?_
  rotate_left 1
  · intro w' hS; obtain ⟨x0, x1, x2, x3, x4, x5⟩ := hS.ins; have rr := hS.box.reg i hi; clear hS
    go_simp <;> with_reducible rfl
  try simp only [Act.put, List.setIfInBounds_toArray, List.set_cons_zero, List.set_cons_succ]
  refine wpAnyH_takeAt (i := 6) (v := ?_) rfl (by kernel_rfl) (by kernel_rfl) (by kernel_rfl) (fun _ _ _ h => h) (Or.inl ⟨by rfl, ?_⟩) s0 ?_
  rotate_left 1
  · intro w' hS; obtain ⟨x0, x1, x2, x3, x4, x5⟩ := hS.ins; have rr := hS.box.reg i hi; clear hS
    go_simp <;> with_reducible rfl
  try simp only [Act.put, List.setIfInBounds_toArray, List.set_cons_zero, List.set_cons_succ]
  refine wpAnyH_takeAt (i := 7) (v := .int .u32 ((numb imm).toNat : Int)) rfl (by kernel_rfl) (by kernel_rfl) (by kernel_rfl) (fun _ _ _ h => h) (Or.inl ⟨by rfl, ?_⟩) s0 ?_
  · intro w' hS; obtain ⟨x0, x1, x2, x3, x4, x5⟩ := hS.ins; have rr := hS.box.reg i hi; clear hS
    go_simp
  try simp only [Act.put, List.setIfInBounds_toArray, List.set_cons_zero, List.set_cons_succ]
  refine wpAnyH_takeAt (i := 8) (v := .int .u32 (Z.toNat : Int)) rfl (by kernel_rfl) (by kernel_rfl) (by kernel_rfl) (fun _ _ _ h => h) (Or.inl ⟨by rfl, ?_⟩) s0 ?_
  · intro w' hS; obtain ⟨x0, x1, x2, x3, x4, x5⟩ := hS.ins; have rr := hS.box.reg i hi; clear hS
    go_simp
  try simp only [Act.put, List.setIfInBounds_toArray, List.set_cons_zero, List.set_cons_succ]
  refine wpAnyH_takeAt (i := 9) (v := ?_) rfl (by kernel_rfl) (by kernel_rfl) (by kernel_rfl) (fun _ _ _ h => h) (Or.inl ⟨by rfl, ?_⟩) s0 ?_
  rotate_left 1
  · intro w' hS; clear hS
    go_simp <;> with_reducible rfl
  try simp only [Act.put, List.setIfInBounds_toArray, List.set_cons_zero, List.set_cons_succ]
  refine wpAnyH_done (by kernel_rfl) ?_ _
  refine NoPanic.normal ?_
  obtain ⟨x0, x1, x2, x3, x4, x5⟩ := D1.ins
  have hZb := Wd.lt Z
  clear hZ hZ' hn hn'
  by_cases hA : (Z.toNat : Int) % 4 = 0
  · have hok : accOk c 17 i imm = true := by unfold accOk; rw [HA.out]; simpa [wN] using hA
    have HM := hideC (show accE c 17 i imm = 0 by unfold accE; rw [if_pos hok])
    have tA : ((Z.toNat : Int).tmod 4 != 0) = false := by rw [Int.tmod_eq_emod_of_nonneg (by omega)]; simpa using hA
    have tA2 : ((Z.toNat : Int) % 4 != 0) = false := by simpa using hA
    have hfm : ((frm 17 : Nat) : Int) = 83 := by decide
    go_wp2_with fail
    have hfrm := rform_any 17 w1.drew
    rw [hfm] at hfrm
    refine hfrm.mono ?_
    rintro e w2 ⟨rfl, rfl⟩
    have rj := D1.box.reg j hj
    go_wp2_with fail
    refine (rstore_any w1.drew r2 ⟨by omega, hZb⟩ (Or.inr (Or.inr rfl)) ⟨by omega, Wd.lt _⟩ (Nat.le_trans hB D1.low.size)).mono ?_
    rintro e w3 ⟨rfl, r3, g3⟩
    have b3 := Box.grown D1.box g3 (by omega)
    have c3 := Box.grown D1.res g3 (by omega)
    have lo3 : w.grownBy w3 (some kb) := below_then D1.low g3
    have hs3 := g3.size
    clear x0 x1 x2 x3 x4 x5 rj
    go_wp2_with (first | (refine wpList_load_rowG (by rfl) 25 _ rfl w.heap.size rfl _ _ _ _ b3 Tryz.underlying25 rfl (infoCs _) ?_))
    refine (rset4_any c 0 (by omega) (by omega) (BitVec.ofNat 32 0) w3).mono ?_
    rintro e w4 ⟨rfl, hb4⟩
    have c4 := c3.below hb4
    have r4 := r3.below hb4
    have lo4 := grown_then lo3 (hb4.mono lo3.size)
    clear b3 c3 r3
    go_wp2_with (first | (refine wpList_store_row rfl 25 _ _ rfl (w.heap.size + 2) _ rfl rfl _ _ c4 (infoCs _) (cells_same _ _) (cells_one _) ?_))
    have eM : accM c l 17 rd i imm = onw c 0 (BitVec.ofNat 32 0) := by unfold accM; rw [if_pos hok, if_pos (by decide), onw_zero]
    have eL : accL c l 17 i j imm = sto l (Z.toNat : Int) ((c.x j).toNat : Int) 4 := by unfold accL; rw [if_pos ⟨hok, by decide⟩, HA.out]; rfl
    have lo5 : ∀ cs, Below w.heap.size w4 (w4.setRow (w.heap.size + 2) cs) := fun cs => below_row (Below.refl _ _) (by omega) _
    rw [eM, HM.out, eL]
    exact bodyPost_ret (results_row_tmp (p := 6) (u := 7) (by kernel_rfl) _ _ (w.heap.size + 2) _ _ _ _ rfl (c4.setRow _) Tryz.underlying25 rfl (infoCs _)) rfl ⟨rfl, refAt_box r4 c4 _, grown_then lo4 (lo5 _)⟩
  · have hok : ¬ accOk c 17 i imm = true := by unfold accOk; rw [HA.out]; simpa [wN] using hA
    have tA : ((Z.toNat : Int).tmod 4 != 0) = true := by rw [Int.tmod_eq_emod_of_nonneg (by omega)]; simpa using hA
    have tA2 : ((Z.toNat : Int) % 4 != 0) = true := by simpa using hA
    have eM : accM c l 17 rd i imm = c := by unfold accM; rw [if_neg hok]
    have eE : accE c 17 i imm = 5 := by unfold accE; rw [if_neg hok]
    have eL : accL c l 17 i j imm = l := by unfold accL; rw [if_neg (fun hh => hok hh.1)]
    have H3 := hideC (And.intro eM (And.intro eE eL))
    clear eM eE eL hok
    go_wp2_with (first | (refine wpList_load_rowG (by rfl) 25 _ rfl w.heap.size rfl _ _ _ _ D1.box Tryz.underlying25 rfl (infoCs _) ?_) | (refine wpList_store_row rfl 25 _ _ rfl (w.heap.size + 2) _ rfl rfl _ _ D1.res (infoCs _) (cells_same _ _) (cells_one _) ?_))
    have lo : Below w.heap.size w (w1.drew.setRow (w.heap.size + 2) (cells c)) := below_row D1.low (by omega) _
    rw [H3.out.1, H3.out.2.1, H3.out.2.2]
    exact bodyPost_ret (results_row_tmp (p := 6) (u := 7) (by kernel_rfl) _ _ (w.heap.size + 2) _ _ _ _ rfl (D1.res.setRow _) Tryz.underlying25 rfl (infoCs _)) rfl ⟨rfl, h.below lo, grown_of_below lo⟩

theorem raccess_any {B kb : Nat} {l : Cs} (c : Mach) (op rd rs1 rs2 imm : Int) (hop : 10 ≤ op ∧ op ≤ 17) (hf : Fine op rd rs1 rs2 imm) (w : World) (h : RefAt w B kb l) (hB : B ≤ w.heap.size) :
    Calls Tryz.prog 28 #[.agg (cells c), .pointer (some ⟨kb, 0, none⟩), .agg #[.int .i64 op, .int .i64 rd, .int .i64 rs1, .int .i64 rs2, .int .i64 imm]] w fun e w' => e = .returned (.tuple #[.agg (cells (accM c l op rd rs1 imm)), .int .i64 (accE c op rs1 imm)]) ∧ RefAt w' B kb (accL c l op rs1 rs2 imm) ∧ w.grownBy w' (some kb) := by
  obtain ⟨_, d0, d1, a0, a1, b0, b1⟩ := hf
  obtain ⟨i, rfl⟩ := Int.eq_ofNat_of_zero_le a0
  obtain ⟨j, rfl⟩ := Int.eq_ofNat_of_zero_le b0
  have hi : i < 32 := by omega
  have hj : j < 32 := by omega
  have h8 : op = 10 ∨ op = 11 ∨ op = 12 ∨ op = 13 ∨ op = 14 ∨ op = 15 ∨ op = 16 ∨ op = 17 := by omega
  rcases h8 with rfl | rfl | rfl | rfl | rfl | rfl | rfl | rfl
  · exact raccess_10 c rd i j imm hi hj d0 d1 w h hB
  · exact raccess_11 c rd i j imm hi hj d0 d1 w h hB
  · exact raccess_12 c rd i j imm hi hj d0 d1 w h hB
  · exact raccess_13 c rd i j imm hi hj d0 d1 w h hB
  · exact raccess_14 c rd i j imm hi hj d0 d1 w h hB
  · exact raccess_15 c rd i j imm hi hj d0 d1 w h hB
  · exact raccess_16 c rd i j imm hi hj d0 d1 w h hB
  · exact raccess_17 c rd i j imm hi hj d0 d1 w h hB
end Go.Proofs.YtilphdfobflbiaaGreat
namespace Go.Proofs.YtilphdfobflbiaaGreat
open Go.RowKit Go.Maps Cp Ip Mm
set_option linter.unusedSimpArgs false

theorem rdecode_kind (x : BitVec 32) (k : Nat) (hk : k < 47) (ha : asked x k = true) (w : World) :
    Calls Tryz.prog 23 #[.int .u32 (x.toNat : Int)] w fun e w' => e = .returned (.tuple #[.agg #[.int .i64 (k : Int), .int .i64 (fRd x k), .int .i64 (fRs1 x k), .int .i64 (fRs2 x k), .int .i64 (fImm x k)], .int .i64 0]) ∧ Below w.heap.size w w' :=
  rdecode_core x k (by omega) (fun j hj => by
    cases h : asked x j with
    | false => rfl
    | true => have := asked_one x j k (by omega) hk h ha; omega) (fun _ => ha) _ _ _ _ _ _ (fun _ => ⟨rfl, rfl, rfl, rfl, rfl, rfl⟩) (fun h => by omega) w
theorem rdecode_none (x : BitVec 32) (h : ∀ k, k < 47 → asked x k = false) (w : World) :
    Calls Tryz.prog 23 #[.int .u32 (x.toNat : Int)] w fun e w' => e = .returned (.tuple #[.agg #[.int .i64 0, .int .i64 0, .int .i64 0, .int .i64 0, .int .i64 0], .int .i64 20]) ∧ Below w.heap.size w w' :=
  rdecode_core x 47 (Nat.le_refl _) (fun j hj => h j hj) (fun h => by omega) _ _ _ _ _ _ (fun h => by omega) (fun _ => ⟨rfl, rfl, rfl, rfl, rfl, rfl⟩) w
theorem even_ (Z : BitVec 32) : ∃ Y : BitVec 32, ((Z.toNat : Int) - (Z.toNat : Int) % 2) % 4294967296 = (Y.toNat : Int) ∧ (Z.toNat : Int) - (Z.toNat : Int) % 2 = (Y.toNat : Int) ∧ Hid (Y = Z &&& ~~~ (BitVec.ofNat 32 1)) := by
  have e : (Z &&& ~~~ (BitVec.ofNat 32 1)).toNat = Z.toNat % 4294967296 / 2 * 2 := by
    rw [BitVec.toNat_and, show (~~~ (BitVec.ofNat 32 1) : BitVec 32).toNat = 4294967294 by decide]
    exact nat_hi32_1 Z.toNat
  have := Z.isLt
  exact ⟨Z &&& ~~~ (BitVec.ofNat 32 1), by omega, by omega, rfl⟩
theorem box_new2Q (W : World) (d : Mach) : Below W.heap.size W ((W.alloc (.cells (cells nought) 25)).setRow W.heap.size (cells d)) ∧ BoxC ((W.alloc (.cells (cells nought) 25)).setRow W.heap.size (cells d)) W.heap.size d :=
  ⟨below_row ((Below.refl _ _).alloc (Nat.le_refl _) _) (Nat.le_refl _) _, (Box.new W nought).setRow d⟩
/-- While a step is made. -/
structure At2R (w : World) (c r : Mach) (B kb : Nat) (l : Cs) (W : World) : Prop where
  box : BoxC W w.heap.size c
  res : BoxC W (w.heap.size + 1) r
  ref : RefAt W B kb l
  low : Below w.heap.size w W
section
variable {w W W' : World} {c r : Mach} {B kb : Nat} {l : Cs}
theorem At2R.below (h : At2R w c r B kb l W) (hb : Below W.heap.size W W') : At2R w c r B kb l W' := ⟨h.box.below hb, h.res.below hb, h.ref.below hb, h.low.trans (hb.mono h.low.size)⟩
theorem At2R.start (w : World) (c : Mach) (h : RefAt w B kb l) : At2R w c nought B kb l ((w.alloc (.cells (cells c) 25)).alloc (.cells (cells nought) 25)) := by
  obtain ⟨b1, b2, lo⟩ := two_boxes w c
  exact ⟨b1, b2, h.below lo, lo⟩
end

set_option maxRecDepth 100000 in
set_option maxHeartbeats 16000000 in
theorem rstep_any {B kb : Nat} {l : Cs} (c : Mach) (w : World) (h : RefAt w B kb l) (hB : B ≤ w.heap.size) :
    Calls Tryz.prog 7 #[.agg (cells c), .pointer (some ⟨kb, 0, none⟩)] w fun e w' => e = .returned (.tuple #[.agg (cells (stepM c l).c), .int .i64 (stepM c l).e]) ∧ RefAt w' B kb (stepM c l).l ∧ w.grownBy w' (some kb) := by
  have hz := zeroC
  have hc0 : ((cells c)[0]?) = some (.int .u32 ((c.x 0).toNat : Int)) := cells_x c 0 (by omega)
  have hcs := cells_size c
  have hcz := cells_zr c
  have A0 := At2R.start w (zr c) h
  have hpc0 : (cells (zr c))[32]? = some (.int .u32 (c.pc.toNat : Int)) := cells_pc (zr c)
  have hkb := h.lt
  by_cases h4 : (c.pc.toNat : Int) % 4 = 0
  · have ht : ((c.pc.toNat : Int) % 4 != 0) = false := by simpa using h4
    go_enter Tryz.func7, Tryz.ntmps7
    go_wp2_with fail
    refine (rload_any _ A0.ref ⟨by omega, Wd.lt c.pc⟩ (Or.inr (Or.inr rfl))).mono ?_
    rintro e w1 ⟨rfl, rfl⟩
    have hn : Mm.num l (c.pc.toNat : Int) (Int.toNat 4) = ((wordAt l c.pc).toNat : Int) := word_num h.rise c.pc
    have HS : Hid (stepM c l = match deck (wordAt l c.pc) with | none => ⟨zr c, 3, l⟩ | some k => insM (zr c) l k (fRd (wordAt l c.pc) k) (fRs1 (wordAt l c.pc) k) (fRs2 (wordAt l c.pc) k) (fImm (wordAt l c.pc) k)) := by
      show stepM c l = _
      unfold stepM; rw [if_neg (by simpa using h4)]; rfl
    rw [hn]
    clear hn hc0 hcs hcz hpc0
    generalize wordAt l c.pc = X at HS ⊢
    cases hd : deck X with
    | none =>
      rw [hd] at HS
      have hno := deck_none hd
      go_wp2_with fail
      refine (rdecode_none X hno _).mono ?_
      rintro e w2 ⟨rfl, hb2⟩
      have A2 := (A0.below hb2).below ((Below.refl _ _).alloc (Nat.le_refl _) (.cells #[.int .i64 0, .int .i64 0, .int .i64 0, .int .i64 0, .int .i64 0] 55))
      clear hb2 hno hd A0
      go_wp2_with (first | (refine wpList_load_rowG (by rfl) 25 _ rfl w.heap.size rfl _ _ _ _ A2.box Tryz.underlying25 rfl (infoCs _) ?_) | (refine wpList_store_row rfl 25 _ _ rfl (w.heap.size + 1) _ rfl rfl _ _ A2.res (infoCs _) (cells_same _ _) (cells_one _) ?_))
      rw [HS.out]
      have loF := below_row A2.low (by omega : w.heap.size ≤ w.heap.size + 1)
      exact bodyPost_ret (results_row_tmp (p := 4) (u := 5) (by kernel_rfl) _ _ (w.heap.size + 1) _ _ _ _ rfl (A2.res.setRow _) Tryz.underlying25 rfl (infoCs _)) rfl ⟨rfl, h.below (loF _), grown_of_below (loF _)⟩
    | some k =>
      rw [hd] at HS
      obtain ⟨hk, ha⟩ := deck_some hd
      have hr := again_right k hk X ha
      go_wp2_with fail
      refine (rdecode_kind X k hk ha _).mono ?_
      rintro e w2 ⟨rfl, hb2⟩
      have A2 := (A0.below hb2)
      have hs2 := hb2.size
      simp only [World.size_alloc] at hs2
      clear hb2 hd A0 ha
      change Hid (stepM c l = insM (zr c) l k (fRd X k) (fRs1 X k) (fRs2 X k) (fImm X k)) at HS
      generalize fRd X k = rd at HS hr ⊢
      generalize fRs1 X k = rs1 at HS hr ⊢
      generalize fRs2 X k = rs2 at HS hr ⊢
      generalize fImm X k = imm at HS hr ⊢
      have hpr : doesB (k : Int) rd rs1 rs2 imm = isPlain (k : Int) := by unfold doesB; rw [hr]; rfl
      have A3 := A2.below ((Below.refl _ _).alloc (Nat.le_refl _) (.cells #[.int .i64 (k : Int), .int .i64 rd, .int .i64 rs1, .int .i64 rs2, .int .i64 imm] 55))
      have I3 := InsAt.new w2 k rd rs1 rs2 imm 55
      go_wp2_with (first | (refine wpList_load_rowG (by rfl) 25 _ rfl w.heap.size rfl _ _ _ _ A3.box Tryz.underlying25 rfl (infoCs _) ?_))
      refine (rdoes_any4 (zr c) k rd rs1 rs2 imm _).mono ?_
      rintro e w3 ⟨rfl, hb3⟩
      have A4 := A3.below hb3
      have I4 := I3.below hb3
      rw [hpr]
      clear hb3 A3 I3 A2
      obtain ⟨n5, b5⟩ := box_new2Q w3 (doesM (zr c) k rd rs1 rs2 imm)
      have A5 := A4.below n5
      have I5 := I4.below n5
      clear A4 I4
      go_upto_region 9 with (first | (refine wpList_store_row rfl 25 _ _ rfl (w3.heap.size) _ rfl rfl _ _ (told_box w3) (infoCs _) (cells_same _ _) (cells_one _) ?_))
      generalize (w3.alloc (.cells (cells nought) 25)).setRow w3.heap.size (cells (doesM (zr c) k rd rs1 rs2 imm)) = w5 at n5 b5 A5 I5 ⊢
      generalize hg : w2.heap.size = g at I5 hs2 ⊢
      clear n5 hg
      cases hp : isPlain (k : Int) with
      | true =>
        have HX := hideC (show stepM c l = ⟨doesM (zr c) k rd rs1 rs2 imm, 0, l⟩ by rw [HS.out]; unfold insM; rw [if_pos hp])
        clear hp hpr HS
        go_wp2_with (first | (refine wpList_load_rowG (by rfl) 25 _ rfl w3.heap.size rfl _ _ _ _ b5 Tryz.underlying25 rfl (infoCs _) ?_) | (refine wpList_store_row rfl 25 _ _ rfl (w.heap.size + 1) _ rfl rfl _ _ A5.res (infoCs _) (cells_same _ _) (cells_one _) ?_))
        rw [HX.out]
        have loF := below_row A5.low (by omega : w.heap.size ≤ w.heap.size + 1)
        exact bodyPost_ret (results_row_tmp (p := 4) (u := 5) (by kernel_rfl) _ _ (w.heap.size + 1) _ _ _ _ rfl (A5.res.setRow _) Tryz.underlying25 rfl (infoCs _)) rfl ⟨rfl, h.below (loF _), grown_of_below (loF _)⟩
      | false =>
        have HO : Hid (stepM c l = ⟨npM (zr c) l k rd rs1 rs2 imm, npE (zr c) k rs1 imm, npL (zr c) l k rs1 rs2 imm⟩) := by
          show stepM c l = _
          rw [HS.out]; unfold insM; rw [if_neg (by simp [hp])]
        clear hpr HS b5
        have hf := fine_of hr
        have hnp : ¬ ((k : Int) = 0 ∨ (k : Int) = 1 ∨ 18 ≤ (k : Int) ∧ (k : Int) ≤ 44) := by simpa [isPlain] using hp
        have hrd0 := hf.rd0
        have hrd1 := hf.rd1
        obtain ⟨i, ei⟩ := Int.eq_ofNat_of_zero_le hf.a0
        obtain ⟨j, ej⟩ := Int.eq_ofNat_of_zero_le hf.b0
        have hi : i < 32 := by have := hf.a1; omega
        have hj : j < 32 := by have := hf.b1; omega
        subst ei ej
        have hiI : (i : Int) < 32 := by omega
        have hjI : (j : Int) < 32 := by omega
        have hpc : w5.cell? ⟨w.heap.size, 32, none⟩ = some (.int .u32 (c.pc.toNat : Int)) := A5.box.at
        obtain ⟨Z, hZ, hZ', HZ⟩ := bump c.pc (numb imm)
        obtain ⟨Q, hQ, HQ⟩ := four c.pc
        have hQ' : IntKind.u32.wrap ((c.pc.toNat : Int) + 4) = (Q.toNat : Int) := hQ
        have hn := numb_cut imm
        have hn' : IntKind.u32.wrap imm = ((numb imm).toNat : Int) := numb_cut imm
        obtain ⟨x0, x1, x2, x3, x4, x5⟩ := I5
        clear hp hr
        rcases (show k = 2 ∨ k = 3 ∨ (4 ≤ k ∧ k ≤ 9) ∨ k = 45 ∨ k = 46 ∨ (10 ≤ k ∧ k ≤ 17) by omega) with hk2 | hk2 | hk2 | hk2 | hk2 | hk2
        · obtain rfl : k = 2 := by omega
          have HX := hideC (show stepM c l = ⟨sp (onw (zr c) rd Q) Z, 0, l⟩ by rw [HO.out, HQ.out, HZ.out]; rfl)
          go_upto_region 16 with fail
          clear hZ hZ' hn hn'
          go_wp2_with (first | (refine wpList_load_rowG (by rfl) 25 _ rfl w.heap.size rfl _ _ _ _ A5.box Tryz.underlying25 rfl (infoCs _) ?_))
          refine (rset4_any (zr c) rd hrd0 hrd1 Q _).mono ?_
          rintro e w6 ⟨rfl, hb6⟩
          have A6 := A5.below hb6
          clear x0 x1 x2 x3 x4 x5 hpc
          have B7 : BoxC (w6.setRow w.heap.size (cells (onw (zr c) rd Q))) w.heap.size (onw (zr c) rd Q) := A6.box.setRow _
          have R7 : BoxC (w6.setRow w.heap.size (cells (onw (zr c) rd Q))) (w.heap.size + 1) nought := A6.res.otherRow _ _ (by omega)
          have lo7 : Below w.heap.size w (w6.setRow w.heap.size (cells (onw (zr c) rd Q))) := below_row A6.low (Nat.le_refl _) _
          go_upto_region 17 with (first | (refine wpList_store_row rfl 25 _ _ rfl w.heap.size _ rfl rfl _ _ A6.box (infoCs _) (cells_same _ _) (cells_one _) ?_))
          generalize w6.setRow w.heap.size (cells (onw (zr c) rd Q)) = w7 at B7 R7 lo7 ⊢
          clear A6 hb6
          have q7 := B7.at
          have f7 := B7.free 32
          have B8 := B7.setp Z
          have R8 := R7.other ⟨w.heap.size, 32, none⟩ (.int .u32 (Z.toNat : Int)) (by simp)
          have lo8 := below_cell1 lo7 (Nat.le_refl _) 32 (.int .u32 (Z.toNat : Int))
          go_upto_region 18 with fail
          generalize w7.setCell ⟨w.heap.size, 32, none⟩ (.int .u32 (Z.toNat : Int)) = w8 at B8 R8 lo8 ⊢
          clear q7 f7 B7 R7 lo7
          go_wp2_with (first | (refine wpList_load_rowG (by rfl) 25 _ rfl w.heap.size rfl _ _ _ _ B8 Tryz.underlying25 rfl (infoCs _) ?_) | (refine wpList_store_row rfl 25 _ _ rfl (w.heap.size + 1) _ rfl rfl _ _ R8 (infoCs _) (cells_same _ _) (cells_one _) ?_))
          rw [HX.out]
          have loF := below_row lo8 (by omega : w.heap.size ≤ w.heap.size + 1)
          exact bodyPost_ret (results_row_tmp (p := 4) (u := 5) (by kernel_rfl) _ _ (w.heap.size + 1) _ _ _ _ rfl (R8.setRow _) Tryz.underlying25 rfl (infoCs _)) rfl ⟨rfl, h.below (loF _), grown_of_below (loF _)⟩
        · obtain rfl : k = 3 := by omega
          obtain ⟨Z2, hZ2, hZ2', HZ2⟩ := bump ((zr c).x i) (numb imm)
          obtain ⟨Y, hY1, hY2, HY⟩ := even_ Z2
          have hY3 : IntKind.u32.wrap ((Z2.toNat : Int) - (Z2.toNat : Int) % 2) = (Y.toNat : Int) := hY1
          have HX := hideC (show stepM c l = ⟨sp (onw (zr c) rd Q) Y, 0, l⟩ by rw [HO.out, HQ.out, HY.out, HZ2.out]; rfl)
          go_upto_region 14 with fail
          have A6 : At2R w (zr c) nought B kb l w5.drew := A5.below (drewN_low w5 1 _)
          have I6 : InsAt w5.drew g (3 : Int) rd (i : Int) (j : Int) imm := (InsAt.mk x0 x1 x2 x3 x4 x5).below (drewN_low w5 1 _)
          have hpc6 : w5.drew.cell? ⟨w.heap.size, 32, none⟩ = some (.int .u32 (c.pc.toNat : Int)) := hpc
          refine wp_region_noPanic ?_
          refine wp_region_held_drew (S := fun W => BoxC W w.heap.size (zr c) ∧ InsAt W g (3 : Int) rd (i : Int) (j : Int) imm) (by kernel_rfl) (show BoxC w5.drew w.heap.size (zr c) ∧ InsAt w5.drew g (3 : Int) rd (i : Int) (j : Int) imm from ⟨A6.box, I6⟩) (fun s0 => ?_)
          refine wpAnyH_takeAt (i := 0) (v := ?_) rfl (by kernel_rfl) (by kernel_rfl) (by kernel_rfl) (fun _ _ _ h => h) (Or.inl ⟨by rfl, ?_⟩) s0 ?_
          rotate_left 1
          · intro w' hS; obtain ⟨y0, y1, y2, y3, y4, y5⟩ := hS.2; have ri := hS.1.reg i hi; have rj := hS.1.reg j hj; clear hS
            go_simp <;> with_reducible rfl
          try simp only [Act.put, List.setIfInBounds_toArray, List.set_cons_zero, List.set_cons_succ]
          refine wpAnyH_takeAt (i := 1) (v := ?_) rfl (by kernel_rfl) (by kernel_rfl) (by kernel_rfl) (fun _ _ _ h => h) (Or.inl ⟨by rfl, ?_⟩) s0 ?_
          rotate_left 1
          · intro w' hS; obtain ⟨y0, y1, y2, y3, y4, y5⟩ := hS.2; have ri := hS.1.reg i hi; have rj := hS.1.reg j hj; clear hS
            go_simp <;> with_reducible rfl
          try simp only [Act.put, List.setIfInBounds_toArray, List.set_cons_zero, List.set_cons_succ]
          refine wpAnyH_takeAt (i := 2) (v := ?_) rfl (by kernel_rfl) (by kernel_rfl) (by kernel_rfl) (fun _ _ _ h => h) (Or.inl ⟨by rfl, ?_⟩) s0 ?_
          rotate_left 1
          · intro w' hS; obtain ⟨y0, y1, y2, y3, y4, y5⟩ := hS.2; have ri := hS.1.reg i hi; have rj := hS.1.reg j hj; clear hS
            go_simp <;> with_reducible rfl
          try simp only [Act.put, List.setIfInBounds_toArray, List.set_cons_zero, List.set_cons_succ]
          refine wpAnyH_takeAt (i := 3) (v := ?_) rfl (by kernel_rfl) (by kernel_rfl) (by kernel_rfl) (fun _ _ _ h => h) (Or.inl ⟨by rfl, ?_⟩) s0 ?_
          rotate_left 1
          · intro w' hS; obtain ⟨y0, y1, y2, y3, y4, y5⟩ := hS.2; have ri := hS.1.reg i hi; have rj := hS.1.reg j hj; clear hS
            go_simp <;> with_reducible rfl
          try simp only [Act.put, List.setIfInBounds_toArray, List.set_cons_zero, List.set_cons_succ]
          refine wpAnyH_takeAt (i := 4) (v := ?_) rfl (by kernel_rfl) (by kernel_rfl) (by kernel_rfl) (fun _ _ _ h => h) (Or.inl ⟨by rfl, ?_⟩) s0 ?_
          rotate_left 1
          · intro w' hS; obtain ⟨y0, y1, y2, y3, y4, y5⟩ := hS.2; have ri := hS.1.reg i hi; have rj := hS.1.reg j hj; clear hS
            go_simp <;> with_reducible rfl
          try simp only [Act.put, List.setIfInBounds_toArray, List.set_cons_zero, List.set_cons_succ]
          refine wpAnyH_takeAt (i := 5) (v := ?_) rfl (by kernel_rfl) (by kernel_rfl) (by kernel_rfl) (fun _ _ _ h => h) (Or.inl ⟨by rfl, ?_⟩) s0 ?_
          rotate_left 1
          · intro w' hS; obtain ⟨y0, y1, y2, y3, y4, y5⟩ := hS.2; have ri := hS.1.reg i hi; have rj := hS.1.reg j hj; clear hS
            go_simp <;> with_reducible rfl
          try simp only [Act.put, List.setIfInBounds_toArray, List.set_cons_zero, List.set_cons_succ]
          refine wpAnyH_takeAt (i := 6) (v := ?_) rfl (by kernel_rfl) (by kernel_rfl) (by kernel_rfl) (fun _ _ _ h => h) (Or.inl ⟨by rfl, ?_⟩) s0 ?_
          rotate_left 1
          · intro w' hS; obtain ⟨y0, y1, y2, y3, y4, y5⟩ := hS.2; have ri := hS.1.reg i hi; have rj := hS.1.reg j hj; clear hS
            go_simp <;> with_reducible rfl
          try simp only [Act.put, List.setIfInBounds_toArray, List.set_cons_zero, List.set_cons_succ]
          refine wpAnyH_takeAt (i := 7) (v := .int .u32 ((numb imm).toNat : Int)) rfl (by kernel_rfl) (by kernel_rfl) (by kernel_rfl) (fun _ _ _ h => h) (Or.inl ⟨by rfl, ?_⟩) s0 ?_
          · intro w' hS; obtain ⟨y0, y1, y2, y3, y4, y5⟩ := hS.2; have ri := hS.1.reg i hi; have rj := hS.1.reg j hj; clear hS
            go_simp
          try simp only [Act.put, List.setIfInBounds_toArray, List.set_cons_zero, List.set_cons_succ]
          refine wpAnyH_takeAt (i := 8) (v := .int .u32 (Z2.toNat : Int)) rfl (by kernel_rfl) (by kernel_rfl) (by kernel_rfl) (fun _ _ _ h => h) (Or.inl ⟨by rfl, ?_⟩) s0 ?_
          · intro w' hS; obtain ⟨y0, y1, y2, y3, y4, y5⟩ := hS.2; have ri := hS.1.reg i hi; have rj := hS.1.reg j hj; clear hS
            go_simp
          try simp only [Act.put, List.setIfInBounds_toArray, List.set_cons_zero, List.set_cons_succ]
          refine wpAnyH_takeAt (i := 9) (v := ?_) rfl (by kernel_rfl) (by kernel_rfl) (by kernel_rfl) (fun _ _ _ h => h) (Or.inl ⟨by rfl, ?_⟩) s0 ?_
          rotate_left 1
          · intro w' hS; clear hS
            go_simp <;> with_reducible rfl
          try simp only [Act.put, List.setIfInBounds_toArray, List.set_cons_zero, List.set_cons_succ]
          refine wpAnyH_done (by kernel_rfl) ?_ _
          refine NoPanic.normal ?_
          clear x0 x1 x2 x3 x4 x5 hpc A5
          have hpc := hpc6
          obtain ⟨x0, x1, x2, x3, x4, x5⟩ := I6
          clear hZ hZ' hn hn' hZ2 hZ2'
          go_upto_region 16 with fail
          clear hY1 hY2 hY3
          go_wp2_with (first | (refine wpList_load_rowG (by rfl) 25 _ rfl w.heap.size rfl _ _ _ _ A6.box Tryz.underlying25 rfl (infoCs _) ?_))
          refine (rset4_any (zr c) rd hrd0 hrd1 Q _).mono ?_
          rintro e w6 ⟨rfl, hb6⟩
          have A9 := A6.below hb6
          clear x0 x1 x2 x3 x4 x5 hpc
          have B7 : BoxC (w6.setRow w.heap.size (cells (onw (zr c) rd Q))) w.heap.size (onw (zr c) rd Q) := A9.box.setRow _
          have R7 : BoxC (w6.setRow w.heap.size (cells (onw (zr c) rd Q))) (w.heap.size + 1) nought := A9.res.otherRow _ _ (by omega)
          have lo7 : Below w.heap.size w (w6.setRow w.heap.size (cells (onw (zr c) rd Q))) := below_row A9.low (Nat.le_refl _) _
          go_upto_region 17 with (first | (refine wpList_store_row rfl 25 _ _ rfl w.heap.size _ rfl rfl _ _ A9.box (infoCs _) (cells_same _ _) (cells_one _) ?_))
          generalize w6.setRow w.heap.size (cells (onw (zr c) rd Q)) = w7 at B7 R7 lo7 ⊢
          clear A6 A9 hb6
          have q7 := B7.at
          have f7 := B7.free 32
          have B8 := B7.setp Y
          have R8 := R7.other ⟨w.heap.size, 32, none⟩ (.int .u32 (Y.toNat : Int)) (by simp)
          have lo8 := below_cell1 lo7 (Nat.le_refl _) 32 (.int .u32 (Y.toNat : Int))
          go_upto_region 18 with fail
          generalize w7.setCell ⟨w.heap.size, 32, none⟩ (.int .u32 (Y.toNat : Int)) = w8 at B8 R8 lo8 ⊢
          clear q7 f7 B7 R7 lo7
          go_wp2_with (first | (refine wpList_load_rowG (by rfl) 25 _ rfl w.heap.size rfl _ _ _ _ B8 Tryz.underlying25 rfl (infoCs _) ?_) | (refine wpList_store_row rfl 25 _ _ rfl (w.heap.size + 1) _ rfl rfl _ _ R8 (infoCs _) (cells_same _ _) (cells_one _) ?_))
          rw [HX.out]
          have loF := below_row lo8 (by omega : w.heap.size ≤ w.heap.size + 1)
          exact bodyPost_ret (results_row_tmp (p := 4) (u := 5) (by kernel_rfl) _ _ (w.heap.size + 1) _ _ _ _ rfl (R8.setRow _) Tryz.underlying25 rfl (infoCs _)) rfl ⟨rfl, h.below (loF _), grown_of_below (loF _)⟩
        · have tk2 : ((k : Int) == 2) = false := by simp; omega
          have tk3 : ((k : Int) == 3) = false := by simp; omega
          have hfm : ((frm (k : Int) : Nat) : Int) = 66 := by
            have : k = 4 ∨ k = 5 ∨ k = 6 ∨ k = 7 ∨ k = 8 ∨ k = 9 := by omega
            rcases this with rfl | rfl | rfl | rfl | rfl | rfl <;> decide
          have hform := rform_any (k : Int) w5
          rw [hfm] at hform
          have HN := hideC (show npM (zr c) l k rd i j imm = brM (zr c) k i j imm ∧ npE (zr c) k i imm = 0 ∧ npL (zr c) l k i j imm = l from ⟨by unfold npM; rw [if_neg (by omega), if_neg (by omega), if_pos (by omega)], by unfold npE; rw [if_pos (by omega)], by unfold npL; rw [if_neg (by omega)]⟩)
          clear hfm
          go_wp2_with fail
          refine hform.mono ?_
          rintro e w6 ⟨rfl, rfl⟩
          go_upto_region 20 with fail
          clear hform
          have A6 : At2R w (zr c) nought B kb l w6.drew := A5.below (drewN_low w6 1 _)
          have I6 : InsAt w6.drew g (k : Int) rd (i : Int) (j : Int) imm := (InsAt.mk x0 x1 x2 x3 x4 x5).below (drewN_low w6 1 _)
          have hpc6 : w6.drew.cell? ⟨w.heap.size, 32, none⟩ = some (.int .u32 (c.pc.toNat : Int)) := hpc
          refine wp_region_noPanic ?_
          refine wp_region_held_drew (S := fun W => BoxC W w.heap.size (zr c) ∧ InsAt W g (k : Int) rd (i : Int) (j : Int) imm) (by kernel_rfl) (show BoxC w6.drew w.heap.size (zr c) ∧ InsAt w6.drew g (k : Int) rd (i : Int) (j : Int) imm from ⟨A6.box, I6⟩) (fun s0 => ?_)
          refine wpAnyH_takeAt (i := 0) (v := ?_) rfl (by kernel_rfl) (by kernel_rfl) (by kernel_rfl) (fun _ _ _ h => h) (Or.inl ⟨by rfl, ?_⟩) s0 ?_
          rotate_left 1
          · intro w' hS; obtain ⟨y0, y1, y2, y3, y4, y5⟩ := hS.2; have ri := hS.1.reg i hi; have rj := hS.1.reg j hj; clear hS
            go_simp <;> with_reducible rfl
          try simp only [Act.put, List.setIfInBounds_toArray, List.set_cons_zero, List.set_cons_succ]
          refine wpAnyH_takeAt (i := 1) (v := ?_) rfl (by kernel_rfl) (by kernel_rfl) (by kernel_rfl) (fun _ _ _ h => h) (Or.inl ⟨by rfl, ?_⟩) s0 ?_
          rotate_left 1
          · intro w' hS; obtain ⟨y0, y1, y2, y3, y4, y5⟩ := hS.2; have ri := hS.1.reg i hi; have rj := hS.1.reg j hj; clear hS
            go_simp <;> with_reducible rfl
          try simp only [Act.put, List.setIfInBounds_toArray, List.set_cons_zero, List.set_cons_succ]
          refine wpAnyH_takeAt (i := 2) (v := ?_) rfl (by kernel_rfl) (by kernel_rfl) (by kernel_rfl) (fun _ _ _ h => h) (Or.inl ⟨by rfl, ?_⟩) s0 ?_
          rotate_left 1
          · intro w' hS; obtain ⟨y0, y1, y2, y3, y4, y5⟩ := hS.2; have ri := hS.1.reg i hi; have rj := hS.1.reg j hj; clear hS
            go_simp <;> with_reducible rfl
          try simp only [Act.put, List.setIfInBounds_toArray, List.set_cons_zero, List.set_cons_succ]
          refine wpAnyH_takeAt (i := 3) (v := ?_) rfl (by kernel_rfl) (by kernel_rfl) (by kernel_rfl) (fun _ _ _ h => h) (Or.inl ⟨by rfl, ?_⟩) s0 ?_
          rotate_left 1
          · intro w' hS; obtain ⟨y0, y1, y2, y3, y4, y5⟩ := hS.2; have ri := hS.1.reg i hi; have rj := hS.1.reg j hj; clear hS
            go_simp <;> with_reducible rfl
          try simp only [Act.put, List.setIfInBounds_toArray, List.set_cons_zero, List.set_cons_succ]
          refine wpAnyH_takeAt (i := 4) (v := ?_) rfl (by kernel_rfl) (by kernel_rfl) (by kernel_rfl) (fun _ _ _ h => h) (Or.inl ⟨by rfl, ?_⟩) s0 ?_
          rotate_left 1
          · intro w' hS; obtain ⟨y0, y1, y2, y3, y4, y5⟩ := hS.2; have ri := hS.1.reg i hi; have rj := hS.1.reg j hj; clear hS
            go_simp <;> with_reducible rfl
          try simp only [Act.put, List.setIfInBounds_toArray, List.set_cons_zero, List.set_cons_succ]
          refine wpAnyH_takeAt (i := 5) (v := ?_) rfl (by kernel_rfl) (by kernel_rfl) (by kernel_rfl) (fun _ _ _ h => h) (Or.inl ⟨by rfl, ?_⟩) s0 ?_
          rotate_left 1
          · intro w' hS; obtain ⟨y0, y1, y2, y3, y4, y5⟩ := hS.2; have ri := hS.1.reg i hi; have rj := hS.1.reg j hj; clear hS
            go_simp <;> with_reducible rfl
          try simp only [Act.put, List.setIfInBounds_toArray, List.set_cons_zero, List.set_cons_succ]
          refine wpAnyH_takeAt (i := 6) (v := ?_) rfl (by kernel_rfl) (by kernel_rfl) (by kernel_rfl) (fun _ _ _ h => h) (Or.inl ⟨by rfl, ?_⟩) s0 ?_
          rotate_left 1
          · intro w' hS; obtain ⟨y0, y1, y2, y3, y4, y5⟩ := hS.2; have ri := hS.1.reg i hi; have rj := hS.1.reg j hj; clear hS
            go_simp <;> with_reducible rfl
          try simp only [Act.put, List.setIfInBounds_toArray, List.set_cons_zero, List.set_cons_succ]
          refine wpAnyH_takeAt (i := 7) (v := ?_) rfl (by kernel_rfl) (by kernel_rfl) (by kernel_rfl) (fun _ _ _ h => h) (Or.inl ⟨by rfl, ?_⟩) s0 ?_
          rotate_left 1
          · intro w' hS; obtain ⟨y0, y1, y2, y3, y4, y5⟩ := hS.2; have ri := hS.1.reg i hi; have rj := hS.1.reg j hj; clear hS
            go_simp <;> with_reducible rfl
          try simp only [Act.put, List.setIfInBounds_toArray, List.set_cons_zero, List.set_cons_succ]
          refine wpAnyH_takeAt (i := 8) (v := ?_) rfl (by kernel_rfl) (by kernel_rfl) (by kernel_rfl) (fun _ _ _ h => h) (Or.inl ⟨by rfl, ?_⟩) s0 ?_
          rotate_left 1
          · intro w' hS; obtain ⟨y0, y1, y2, y3, y4, y5⟩ := hS.2; have ri := hS.1.reg i hi; have rj := hS.1.reg j hj; clear hS
            go_simp <;> with_reducible rfl
          try simp only [Act.put, List.setIfInBounds_toArray, List.set_cons_zero, List.set_cons_succ]
          refine wpAnyH_takeAt (i := 9) (v := ?_) rfl (by kernel_rfl) (by kernel_rfl) (by kernel_rfl) (fun _ _ _ h => h) (Or.inl ⟨by rfl, ?_⟩) s0 ?_
          rotate_left 1
          · intro w' hS; obtain ⟨y0, y1, y2, y3, y4, y5⟩ := hS.2; have ri := hS.1.reg i hi; have rj := hS.1.reg j hj; clear hS
            go_simp <;> with_reducible rfl
          try simp only [Act.put, List.setIfInBounds_toArray, List.set_cons_zero, List.set_cons_succ]
          refine wpAnyH_takeAt (i := 10) (v := ?_) rfl (by kernel_rfl) (by kernel_rfl) (by kernel_rfl) (fun _ _ _ h => h) (Or.inl ⟨by rfl, ?_⟩) s0 ?_
          rotate_left 1
          · intro w' hS; obtain ⟨y0, y1, y2, y3, y4, y5⟩ := hS.2; have ri := hS.1.reg i hi; have rj := hS.1.reg j hj; clear hS
            go_simp <;> with_reducible rfl
          try simp only [Act.put, List.setIfInBounds_toArray, List.set_cons_zero, List.set_cons_succ]
          refine wpAnyH_takeAt (i := 11) (v := ?_) rfl (by kernel_rfl) (by kernel_rfl) (by kernel_rfl) (fun _ _ _ h => h) (Or.inl ⟨by rfl, ?_⟩) s0 ?_
          rotate_left 1
          · intro w' hS; obtain ⟨y0, y1, y2, y3, y4, y5⟩ := hS.2; have ri := hS.1.reg i hi; have rj := hS.1.reg j hj; clear hS
            go_simp <;> with_reducible rfl
          try simp only [Act.put, List.setIfInBounds_toArray, List.set_cons_zero, List.set_cons_succ]
          refine wpAnyH_ready (rs := [12]) (by kernel_rfl) (by simp) (allReady_at rfl (fun K hK => ?_))
          go_simp
          refine (rtaken_any (k : Int) (by omega) ((zr c).x i) ((zr c).x j) _).mono ?_
          rintro e w7 ⟨rfl, rfl⟩
          dsimp only
          refine hK.out _ _ s0 (fun _ => ?_)
          clear hK K
          try simp only [Act.put, List.setIfInBounds_toArray, List.set_cons_zero, List.set_cons_succ]
          refine wpAnyH_done (by kernel_rfl) ?_ _
          refine NoPanic.normal ?_
          clear x0 x1 x2 x3 x4 x5 hpc A5
          have hpc := hpc6
          obtain ⟨x0, x1, x2, x3, x4, x5⟩ := I6
          cases ht : takes (k : Int) ((zr c).x i) ((zr c).x j) with
          | true =>
            have HX := hideC (show stepM c l = ⟨sp (zr c) Z, 0, l⟩ by rw [HO.out, HN.out.1, HN.out.2.1, HN.out.2.2]; unfold brM; rw [Int.toNat_natCast, Int.toNat_natCast, if_pos ht, HZ.out]; rfl)
            have f6 := A6.box.free 32
            have B8 : BoxC (w6.setCell ⟨w.heap.size, 32, none⟩ (.int .u32 (Z.toNat : Int))).drew w.heap.size (sp (zr c) Z) := A6.box.setp Z
            have R8 : BoxC (w6.setCell ⟨w.heap.size, 32, none⟩ (.int .u32 (Z.toNat : Int))).drew (w.heap.size + 1) nought := A6.res.other ⟨w.heap.size, 32, none⟩ (.int .u32 (Z.toNat : Int)) (by simp)
            have lo8 : Below w.heap.size w (w6.setCell ⟨w.heap.size, 32, none⟩ (.int .u32 (Z.toNat : Int))).drew := below_cell1 A6.low (Nat.le_refl _) 32 (.int .u32 (Z.toNat : Int))
            clear ht
            go_upto_region 22 with fail
            generalize (w6.setCell ⟨w.heap.size, 32, none⟩ (.int .u32 (Z.toNat : Int))).drew = w8 at B8 R8 lo8 ⊢
            clear x0 x1 x2 x3 x4 x5 hpc f6 A6 s0
            go_wp2_with (first | (refine wpList_load_rowG (by rfl) 25 _ rfl w.heap.size rfl _ _ _ _ B8 Tryz.underlying25 rfl (infoCs _) ?_) | (refine wpList_store_row rfl 25 _ _ rfl (w.heap.size + 1) _ rfl rfl _ _ R8 (infoCs _) (cells_same _ _) (cells_one _) ?_))
            rw [HX.out]
            have loF := below_row lo8 (by omega : w.heap.size ≤ w.heap.size + 1)
            exact bodyPost_ret (results_row_tmp (p := 4) (u := 5) (by kernel_rfl) _ _ (w.heap.size + 1) _ _ _ _ rfl (R8.setRow _) Tryz.underlying25 rfl (infoCs _)) rfl ⟨rfl, h.below (loF _), grown_of_below (loF _)⟩
          | false =>
            have HX := hideC (show stepM c l = ⟨onw (zr c) 0 (BitVec.ofNat 32 0), 0, l⟩ by rw [HO.out, HN.out.1, HN.out.2.1, HN.out.2.2, onw_zero]; unfold brM; rw [Int.toNat_natCast, Int.toNat_natCast, if_neg (by simp [ht])])
            clear ht
            go_wp2_with (first | (refine wpList_load_rowG (by rfl) 25 _ rfl w.heap.size rfl _ _ _ _ A6.box Tryz.underlying25 rfl (infoCs _) ?_))
            refine (rset4_any (zr c) 0 (by omega) (by omega) (BitVec.ofNat 32 0) _).mono ?_
            rintro e w8 ⟨rfl, hb8⟩
            have A8 := A6.below hb8
            go_wp2_with (first | (refine wpList_store_row rfl 25 _ _ rfl (w.heap.size + 1) _ rfl rfl _ _ A8.res (infoCs _) (cells_same _ _) (cells_one _) ?_))
            rw [HX.out]
            have loF := below_row A8.low (by omega : w.heap.size ≤ w.heap.size + 1)
            exact bodyPost_ret (results_row_tmp (p := 4) (u := 5) (by kernel_rfl) _ _ (w.heap.size + 1) _ _ _ _ rfl (A8.res.setRow _) Tryz.underlying25 rfl (infoCs _)) rfl ⟨rfl, h.below (loF _), grown_of_below (loF _)⟩
        · obtain rfl : k = 45 := by omega
          have HX := hideC (show stepM c l = ⟨onw (zr c) 0 (BitVec.ofNat 32 0), 1, l⟩ by rw [HO.out, onw_zero]; rfl)
          go_wp2_with fail
          have hform := rform_any 45 w5
          rw [show ((frm 45 : Nat) : Int) = 69 by decide] at hform
          refine hform.mono ?_
          rintro e w6 ⟨rfl, rfl⟩
          go_wp2_with (first | (refine wpList_load_rowG (by rfl) 25 _ rfl w.heap.size rfl _ _ _ _ A5.box Tryz.underlying25 rfl (infoCs _) ?_))
          refine (rset4_any (zr c) 0 (by omega) (by omega) (BitVec.ofNat 32 0) _).mono ?_
          rintro e w8 ⟨rfl, hb8⟩
          have A8 := A5.below hb8
          clear x0 x1 x2 x3 x4 x5 hpc
          go_wp2_with (first | (refine wpList_store_row rfl 25 _ _ rfl (w.heap.size + 1) _ rfl rfl _ _ A8.res (infoCs _) (cells_same _ _) (cells_one _) ?_))
          rw [HX.out]
          have loF := below_row A8.low (by omega : w.heap.size ≤ w.heap.size + 1)
          exact bodyPost_ret (results_row_tmp (p := 4) (u := 5) (by kernel_rfl) _ _ (w.heap.size + 1) _ _ _ _ rfl (A8.res.setRow _) Tryz.underlying25 rfl (infoCs _)) rfl ⟨rfl, h.below (loF _), grown_of_below (loF _)⟩
        · obtain rfl : k = 46 := by omega
          have HX := hideC (show stepM c l = ⟨zr c, 2, l⟩ by rw [HO.out]; rfl)
          go_wp2_with fail
          have hform := rform_any 46 w5
          rw [show ((frm 46 : Nat) : Int) = 69 by decide] at hform
          refine hform.mono ?_
          rintro e w6 ⟨rfl, rfl⟩
          go_wp2_with (first | (refine wpList_load_rowG (by rfl) 25 _ rfl w.heap.size rfl _ _ _ _ A5.box Tryz.underlying25 rfl (infoCs _) ?_) | (refine wpList_store_row rfl 25 _ _ rfl (w.heap.size + 1) _ rfl rfl _ _ A5.res (infoCs _) (cells_same _ _) (cells_one _) ?_))
          rw [HX.out]
          have loF := below_row A5.low (by omega : w.heap.size ≤ w.heap.size + 1)
          exact bodyPost_ret (results_row_tmp (p := 4) (u := 5) (by kernel_rfl) _ _ (w.heap.size + 1) _ _ _ _ rfl (A5.res.setRow _) Tryz.underlying25 rfl (infoCs _)) rfl ⟨rfl, h.below (loF _), grown_of_below (loF _)⟩
        · have tk2 : ((k : Int) == 2) = false := by simp; omega
          have tk3 : ((k : Int) == 3) = false := by simp; omega
          have hfm : (((frm (k : Int) : Nat) : Int) == 66) = false := by
            have : k = 10 ∨ k = 11 ∨ k = 12 ∨ k = 13 ∨ k = 14 ∨ k = 15 ∨ k = 16 ∨ k = 17 := by omega
            rcases this with rfl | rfl | rfl | rfl | rfl | rfl | rfl | rfl <;> decide
          go_wp2_with fail
          refine (rform_any (k : Int) w5).mono ?_
          rintro e w6 ⟨rfl, rfl⟩
          have t45 : ((k : Int) == 45) = false := by simp; omega
          have t46 : ((k : Int) == 46) = false := by simp; omega
          have HX := hideC (show stepM c l = ⟨accM (zr c) l k rd i imm, accE (zr c) k i imm, accL (zr c) l k i j imm⟩ by
            rw [HO.out]
            congr 1
            · unfold npM; rw [if_neg (by omega), if_neg (by omega), if_neg (by omega), if_pos (by omega)]
            · unfold npE; rw [if_neg (by omega), if_pos (by omega)]
            · unfold npL; rw [if_pos (by omega)])
          go_wp2_with (first | (refine wpList_load_rowG (by rfl) 25 _ rfl w.heap.size rfl _ _ _ _ A5.box Tryz.underlying25 rfl (infoCs _) ?_))
          refine (raccess_any (zr c) k rd i j imm (by omega) hf _ A5.ref (Nat.le_trans hB A5.low.size)).mono ?_
          rintro e w8 ⟨rfl, r8, g8⟩
          have c8 := Box.grown A5.res g8 (by omega)
          have lo8 : w.grownBy w8 (some kb) := below_then A5.low g8
          clear x0 x1 x2 x3 x4 x5 hpc
          go_wp2_with (first | (refine wpList_store_row rfl 25 _ _ rfl (w.heap.size + 1) _ rfl rfl _ _ c8 (infoCs _) (cells_same _ _) (cells_one _) ?_))
          rw [HX.out]
          exact bodyPost_ret (results_row_tmp (p := 4) (u := 5) (by kernel_rfl) _ _ (w.heap.size + 1) _ _ _ _ rfl (c8.setRow _) Tryz.underlying25 rfl (infoCs _)) rfl ⟨rfl, refAt_box r8 c8 _, grown_then lo8 (below_row (Below.refl _ _) (by omega) _)⟩
  · have ht : ((c.pc.toNat : Int) % 4 != 0) = true := by simpa using h4
    have HS : Hid (stepM c l = ⟨zr c, 4, l⟩) := by
      show stepM c l = _
      unfold stepM; rw [if_pos h4]
    go_enter Tryz.func7, Tryz.ntmps7
    go_wp2_with (first | (refine wpList_load_rowG (by rfl) 25 _ rfl w.heap.size rfl _ _ _ _ A0.box Tryz.underlying25 rfl (infoCs _) ?_) | (refine wpList_store_row rfl 25 _ _ rfl (w.heap.size + 1) _ rfl rfl _ _ A0.res (infoCs _) (cells_same _ _) (cells_one _) ?_))
    rw [HS.out]
    have loF := below_row A0.low (by omega : w.heap.size ≤ w.heap.size + 1)
    exact bodyPost_ret (results_row_tmp (p := 4) (u := 5) (by kernel_rfl) _ _ (w.heap.size + 1) _ _ _ _ rfl (A0.res.setRow _) Tryz.underlying25 rfl (infoCs _)) rfl ⟨rfl, h.below (loF _), grown_of_below (loF _)⟩
end Go.Proofs.YtilphdfobflbiaaGreat
