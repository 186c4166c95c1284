/-
  Contracts of package blocks: jumps, goesOn, Ends, stands.
  Contracts of slices.Sort and slices.Compact at a slice of words that a call owns; of blocks.After.
-/
import Derived.Lib.SliceRun
import Derived.Laws.OwnMore
import Derived.Test.YtcffpmicencfpabGreatZC2
import Derived.Test.YtcffpmicencfpabGreatZh
namespace Go.Proofs.YtcffpmicencfpabGreat
open Go.RowKit Go.Lib Ip Bl
set_option linter.unusedSimpArgs false
set_option linter.unusedVariables false

def insV (x : Ins) : Value := .agg #[.int .i64 x.op, .int .i64 x.rd, .int .i64 x.rs1, .int .i64 x.rs2, .int .i64 x.imm]
def rightI (x : Ins) : Bool := right x.op x.rd x.rs1 x.rs2 x.imm
theorem rightI_any (x : Ins) (w : World) : Calls Tryz.prog 33 #[insV x] w fun e w' => e = .returned (.bool (rightI x)) ∧ Below w.heap.size w w' := right_any _ _ _ _ _ w
theorem beqD (a b : Int) : (a == b) = decide (a = b) := by rw [Bool.eq_iff_iff, beq_iff_eq, decide_eq_true_eq]
theorem is66 (n : Nat) : ((n : Int) == 66) = decide (n = 66) := by
  rw [Bool.eq_iff_iff, beq_iff_eq, decide_eq_true_eq]; omega
def jumpsI (x : Ins) : Bool := rightI x && goesB x.op
def goesOnI (x : Ins) : Bool := rightI x && (!decide (x.op = 46) && staysB x.op x.rd)
theorem inst_box (w : World) (a b c d e : Int) : (w.alloc (.cells #[.int .i64 a, .int .i64 b, .int .i64 c, .int .i64 d, .int .i64 e] 38)).heap[w.heap.size]? = some (.cells #[.int .i64 a, .int .i64 b, .int .i64 c, .int .i64 d, .int .i64 e] 38 (0, 0)) := heap_alloc_new w _
theorem five {W : World} {b : Nat} {a0 a1 a2 a3 a4 : Value} {t : TypeId} (h : W.heap[b]? = some (.cells #[a0, a1, a2, a3, a4] t (0, 0))) :
    W.cell? ⟨b, 0, none⟩ = some a0 ∧ W.cell? ⟨b, 1, none⟩ = some a1 ∧ W.cell? ⟨b, 2, none⟩ = some a2 ∧ W.cell? ⟨b, 3, none⟩ = some a3 ∧ W.cell? ⟨b, 4, none⟩ = some a4 := by
  simp [World.cell?, h]
set_option maxHeartbeats 1000000 in
theorem jumps_any (x : Ins) (w : World) : Calls Tryz.prog 71 #[insV x] w fun e w' => e = .returned (.bool (jumpsI x)) ∧ Below w.heap.size w w' := by
  obtain ⟨op, rd, rs1, rs2, imm⟩ := x
  have hb0 : Below w.heap.size w (w.alloc (.cells #[.int .i64 op, .int .i64 rd, .int .i64 rs1, .int .i64 rs2, .int .i64 imm] 38)) := (Below.refl _ w).alloc (Nat.le_refl _) _
  have HB := hideE hb0
  have hbx := inst_box w op rd rs1 rs2 imm
  have hj : jumpsI ⟨op, rd, rs1, rs2, imm⟩ = (right op rd rs1 rs2 imm && goesB op) := rfl
  have HJ := hideE hj
  clear hj hb0
  simp only [insV]
  go_enter Tryz.func71, Tryz.ntmps71
  go_wp2_with fail
  refine (right_any op rd rs1 rs2 imm _).mono ?_
  rintro e w1 ⟨rfl, hb1⟩
  obtain ⟨c0, c1, c2, c3, c4⟩ := five (keptN hb1 hbx)
  have HB1 := hideE hb1
  clear hbx hb1
  obtain ⟨r, hr⟩ : ∃ r, right op rd rs1 rs2 imm = r := ⟨_, rfl⟩
  rw [hr] at HJ ⊢
  clear hr
  cases r
  · go_wp2_with fail
    go_ret
    exact ⟨retb (by rw [HJ.out]; rfl), HB.out.trans (HB1.out.mono (by simp))⟩
  · by_cases h2 : op = 2
    · subst h2
      go_wp2_with fail
      go_ret
      exact ⟨retb (by rw [HJ.out]; rfl), HB.out.trans (HB1.out.mono (by simp))⟩
    · have hne : (op == 2) = false := by rw [beq_eq_false_iff_ne]; exact h2
      have HG : Hid (goesB op = decide (frm op = 66)) := by
        show goesB op = decide (frm op = 66)
        unfold goesB
        exact decide_eq_decide.2 ⟨fun h => h.resolve_left h2, .inr⟩
      clear h2
      go_wp2_with (go_at_call 51; refine (form_any op _).mono ?_; rintro e w2 ⟨rfl, hb2⟩)
      go_ret
      refine ⟨retb ?_, (HB.out.trans (HB1.out.mono (by simp))).trans (hb2.mono (Nat.le_trans (by simp) HB1.out.size))⟩
      rw [HJ.out, HG.out, Bool.true_and]
      exact is66 _
set_option maxHeartbeats 1000000 in
theorem goesOn_any (x : Ins) (w : World) : Calls Tryz.prog 72 #[insV x] w fun e w' => e = .returned (.bool (goesOnI x)) ∧ Below w.heap.size w w' := by
  obtain ⟨op, rd, rs1, rs2, imm⟩ := x
  have hb0 : Below w.heap.size w (w.alloc (.cells #[.int .i64 op, .int .i64 rd, .int .i64 rs1, .int .i64 rs2, .int .i64 imm] 38)) := (Below.refl _ w).alloc (Nat.le_refl _) _
  have HB := hideE hb0
  have hbx := inst_box w op rd rs1 rs2 imm
  have hj : goesOnI ⟨op, rd, rs1, rs2, imm⟩ = (right op rd rs1 rs2 imm && (!decide (op = 46) && staysB op rd)) := rfl
  have HJ := hideE hj
  clear hj hb0
  simp only [insV]
  by_cases h46 : op = 46
  · subst h46
    go_enter Tryz.func72, Tryz.ntmps72
    go_wp2_with fail
    go_ret
    exact ⟨retb (by rw [HJ.out]; simp), HB.out⟩
  · have n46 : (op == 46) = false := by rw [beq_eq_false_iff_ne]; exact h46
    by_cases hs : op = 2 ∨ op = 3
    · have HS : Hid (staysB op rd = decide (rd ≠ 0)) := by
        show staysB op rd = decide (rd ≠ 0)
        unfold staysB
        exact decide_eq_decide.2 ⟨fun h => h.resolve_left (fun h => by omega), .inr⟩
      have H46 := hideE h46
      clear h46
      obtain ⟨r, hr⟩ : ∃ r, right op rd rs1 rs2 imm = r := ⟨_, rfl⟩
      have HR := hideE hr
      rcases hs with rfl | rfl
      all_goals
        go_enter Tryz.func72, Tryz.ntmps72
        go_wp2_with fail
        refine (right_any _ rd rs1 rs2 imm _).mono ?_
        rintro e w1 ⟨rfl, hb1⟩
        rw [hr]
        obtain ⟨c0, c1, c2, c3, c4⟩ := five (keptN hb1 hbx)
        have HB1 := hideE hb1
        clear hbx hb1 hr
        cases r
        · go_wp2_with fail
          go_ret
          exact ⟨retb (by rw [HJ.out, HR.out]; rfl), HB.out.trans (HB1.out.mono (by simp))⟩
        · go_wp2_with fail
          go_ret
          exact ⟨retb (by rw [HJ.out, HR.out, HS.out]; simp [bne, beqD]), HB.out.trans (HB1.out.mono (by simp))⟩
    · have n2 : (op == 2) = false := by rw [beq_eq_false_iff_ne]; omega
      have n3 : (op == 3) = false := by rw [beq_eq_false_iff_ne]; omega
      have HS : Hid (staysB op rd = true) := decide_eq_true (.inl ⟨by omega, by omega⟩)
      have H46 := hideE h46
      clear h46 hs
      go_enter Tryz.func72, Tryz.ntmps72
      go_wp2_with (go_at_call 33; refine (right_any op rd rs1 rs2 imm _).mono ?_; rintro e w1 ⟨rfl, hb1⟩)
      go_ret
      exact ⟨retb (by rw [HJ.out, HS.out, decide_eq_false H46.out]; simp), HB.out.trans (hb1.mono (by simp))⟩
set_option maxHeartbeats 1000000 in
theorem ends_any (x : Ins) (w : World) : Calls Tryz.prog 64 #[insV x] w fun e w' => e = .returned (.bool (endsI x)) ∧ Below w.heap.size w w' := by
  obtain ⟨op, rd, rs1, rs2, imm⟩ := x
  have hb0 : Below w.heap.size w (w.alloc (.cells #[.int .i64 op, .int .i64 rd, .int .i64 rs1, .int .i64 rs2, .int .i64 imm] 38)) := (Below.refl _ w).alloc (Nat.le_refl _) _
  have HB := hideE hb0
  have hbx := inst_box w op rd rs1 rs2 imm
  have HJ : Hid (jumpsI ⟨op, rd, rs1, rs2, imm⟩ = (right op rd rs1 rs2 imm && goesB op)) := rfl
  have HE : Hid (endsI ⟨op, rd, rs1, rs2, imm⟩ = (!right op rd rs1 rs2 imm || decide (frm op = 66 ∨ op = 2 ∨ op = 3 ∨ op = 46))) := rfl
  have HC := jumps_any ⟨op, rd, rs1, rs2, imm⟩
  clear hb0
  simp only [insV] at HC ⊢
  go_enter Tryz.func64, Tryz.ntmps64
  go_wp2_with fail
  refine (HC _).mono ?_
  clear HC
  rintro e w1 ⟨rfl, hb1⟩
  obtain ⟨c0, c1, c2, c3, c4⟩ := five (keptN hb1 hbx)
  have HB1 := hideE hb1
  clear hbx hb1
  obtain ⟨j, hj⟩ : ∃ j, jumpsI ⟨op, rd, rs1, rs2, imm⟩ = j := ⟨_, rfl⟩
  rw [hj]
  have HJ1 := hideE hj
  clear hj
  cases j
  · have key : Hid (endsI ⟨op, rd, rs1, rs2, imm⟩ = (decide (op = 3) || (decide (op = 46) || !right op rd rs1 rs2 imm))) := by
      show _ = _
      have h1 := HJ1.out
      rw [HJ.out] at h1
      rw [HE.out]
      cases hr : right op rd rs1 rs2 imm with
      | false => simp
      | true =>
        rw [hr, Bool.true_and] at h1
        have h2 := of_decide_eq_false h1
        rw [Bool.eq_iff_iff]
        simp only [Bool.not_true, Bool.false_or, Bool.or_false, decide_eq_true_eq, Bool.or_eq_true]
        exact ⟨fun h => by rcases h with h | h | h | h; · exact absurd (.inr h) h2
                           · exact absurd (.inl h) h2
                           · exact .inl h
                           · exact .inr h, fun h => by rcases h with h | h; · exact .inr (.inr (.inl h))
                                                       · exact .inr (.inr (.inr h))⟩
    by_cases h3 : op = 3
    · subst h3
      go_wp2_with fail
      go_ret
      exact ⟨retb (by rw [key.out]; rfl), HB.out.trans (HB1.out.mono (by simp))⟩
    · have n3 : (op == 3) = false := by rw [beq_eq_false_iff_ne]; exact h3
      have H3 := hideE h3
      clear h3
      by_cases h46 : op = 46
      · subst h46
        go_wp2_with fail
        go_ret
        exact ⟨retb (by rw [key.out]; simp), HB.out.trans (HB1.out.mono (by simp))⟩
      · have n46 : (op == 46) = false := by rw [beq_eq_false_iff_ne]; exact h46
        have H46 := hideE h46
        clear h46
        go_wp2_with (go_at_call 33; refine (right_any op rd rs1 rs2 imm _).mono ?_; rintro e w2 ⟨rfl, hb2⟩)
        go_ret
        exact ⟨retb (by rw [key.out, decide_eq_false H3.out, decide_eq_false H46.out]; rfl), (HB.out.trans (HB1.out.mono (by simp))).trans (hb2.mono (Nat.le_trans (by simp) HB1.out.size))⟩
  · have key : Hid (endsI ⟨op, rd, rs1, rs2, imm⟩ = true) := by
      show _ = _
      have h1 := HJ1.out
      rw [HJ.out, Bool.and_eq_true] at h1
      rw [HE.out, h1.1]
      have h2 := of_decide_eq_true h1.2
      simp only [Bool.not_true, Bool.false_or, decide_eq_true_eq]
      rcases h2 with h | h
      · exact .inr (.inl h)
      · exact .inl h
    go_wp2_with fail
    go_ret
    exact ⟨retb key.out.symm, HB.out.trans (HB1.out.mono (by simp))⟩
theorem results_row_tmp {P : Program} {fn : Func} {p u : Tmp} {ty : TypeId} (h : fn.results = #[.cell p ty, .tmp u]) (tmps : Array Value) (w : World) (g : Nat) (t : TypeId) (cs : Array Value) (fr : Nat × Nat) (d : TypeDesc)
    (hp : tmps.getD p undef = .pointer (some ⟨g, 0, none⟩)) (hg : w.heap[g]? = some (.cells cs t fr))
    (hu : P.underlying ty = some d) (hd : (match d with | .struct _ | .array _ _ => true | _ => false) = true) (hi : (P.info? ty).map (·.size) = some cs.size) :
    (results fn tmps).run P w = .ok (.tuple #[.agg cs, tmps.getD u undef]) w := by
  have hp' : tmps[p]?.getD undef = .pointer (some ⟨g, 0, none⟩) := by simpa using hp
  simp [results, h, hp', asAddr, run_loadVar_row w g t ty cs fr d hg hu hd hi]
def Z5 : Array Value := #[.int .i64 0, .int .i64 0, .int .i64 0, .int .i64 0, .int .i64 0]
def insC (x : Ins) : Array Value := #[.int .i64 x.op, .int .i64 x.rd, .int .i64 x.rs1, .int .i64 x.rs2, .int .i64 x.imm]
theorem insW_some {x : BitVec 32} {k : Nat} (h : kindOf x = some k) : errW x = 0 ∧ insW x = ⟨(k : Int), regIf (hRd (kf k)) x 7, regIf (hRs1 (kf k)) x 15, regIf (hRs2 (kf k)) x 20, number x (kf k)⟩ := by
  unfold errW insW; rw [h]; exact ⟨rfl, rfl⟩
theorem insW_none {x : BitVec 32} (h : kindOf x = none) : errW x = 80 ∧ insW x = noIns := by
  unfold errW insW; rw [h]; exact ⟨rfl, rfl⟩
theorem decode_w (x : BitVec 32) (y : Ins) (h : insW x = y) (h0 : errW x = 0) (w : World) : Calls Tryz.prog 46 #[.int .u32 (x.toNat : Int)] w fun e w' => e = .returned (.tuple #[.agg #[.int .i64 y.op, .int .i64 y.rd, .int .i64 y.rs1, .int .i64 y.rs2, .int .i64 y.imm], .int .i64 0]) ∧ Below w.heap.size w w' := by
  subst h
  cases hk : kindOf x with
  | some k =>
    obtain ⟨hk1, hk2⟩ := kind_some hk
    rw [(insW_some hk).2]
    exact decode_kind x k hk1 hk2 w
  | none => rw [(insW_none hk).1] at h0; cases h0
theorem errW_none {x : BitVec 32} (h0 : errW x ≠ 0) : ∀ k, k < 47 → asked x k = false := by
  cases hk : kindOf x with
  | some k => exact absurd (insW_some hk).1 h0
  | none => exact kind_none hk
set_option maxHeartbeats 1000000 in
/-- The instruction at an address of a text. -/
theorem stands_any (i : Img) (v : Value) (a : Nat) (ha : a < 4294967296) (hi : i.ok) (w : World) (hS : SlW w v i.words) :
    Calls Tryz.prog 48 #[imgV i v, .int .u32 (a : Int)] w fun e w' => e = .returned (.tuple #[insV (insA i a), .int .i64 (errA i a : Int)]) ∧ Below w.heap.size w w' := by
  have hat := at_any i v (adrB a) hi ((w.alloc (.cells #[.int .u32 (i.base.toNat : Int), .int .u32 (i.entry.toNat : Int), v, .int .i64 (i.seg : Int)] 26)).alloc (.cells #[.int .i64 0, .int .i64 0, .int .i64 0, .int .i64 0, .int .i64 0] 38)) ((hS.alloc _).alloc _)
  rw [adrB_nat ha] at hat
  have hb0 : Below w.heap.size w ((w.alloc (.cells #[.int .u32 (i.base.toNat : Int), .int .u32 (i.entry.toNat : Int), v, .int .i64 (i.seg : Int)] 26)).alloc (.cells #[.int .i64 0, .int .i64 0, .int .i64 0, .int .i64 0, .int .i64 0] 38)) := ((Below.refl _ w).alloc (Nat.le_refl _) _).alloc (by simp) _
  have hh := hitA_of (i := i) ha
  have HH' := hideE hh
  obtain ⟨hb, hB⟩ : ∃ b, atB i (adrB a) = b := ⟨_, rfl⟩
  rw [hB] at hat hh
  have HI : Hid (insA i a = if hb = true then insW (wordA i a) else noIns) := by show _ = _; unfold insA; rw [hh]
  have HE : Hid (errA i a = if hb = true then errW (wordA i a) else 81) := by show _ = _; unfold errA; rw [hh]
  have hwl : atW i (adrB a) < 4294967296 := by
    cases hb with
    | false => rw [at_no hB]; decide
    | true =>
      obtain ⟨n, hn, e, _⟩ := at_yes hB
      rw [e]; exact hi.2.2.2 n (List.mem_of_getElem? hn)
  have hW : wordA i a = adrB (atW i (adrB a)) := rfl
  have hWn := adrB_nat hwl
  rw [← hW] at hWn
  have HW := hideE hWn
  rw [← hWn] at hat
  obtain ⟨p, c, rfl, _⟩ := hS.len
  clear hS hB hh hwl hW hWn
  simp only [imgV] at hat ⊢
  go_enter Tryz.func48, Tryz.ntmps48
  go_wp2_with fail
  refine hat.mono ?_
  clear hat
  rintro e w1 ⟨rfl, hb1⟩
  have hrs : w1.heap[w.heap.size + 1]? = some (.cells Z5 38 (0, 0)) := by
    refine keptN hb1 ?_
    have := heap_alloc_new (w.alloc (.cells #[.int .u32 (i.base.toNat : Int), .int .u32 (i.entry.toNat : Int), .slice p i.words.length c, .int .i64 (i.seg : Int)] 26)) (.cells Z5 38)
    rw [World.size_alloc] at this
    exact this
  have HB1 := hideE (hb0.trans (hb1.mono hb0.size))
  clear hb1 hb0
  cases hb with
  | false =>
    go_wp2_with (refine wpList_store_row rfl 38 _ _ rfl (w.heap.size + 1) _ rfl rfl _ Z5 hrs (by kernel_rfl) rfl (by kernel_rfl) ?_)
    refine bodyPost_ret (v := .tuple #[.agg (Z5), .int .i64 81]) (results_row_tmp (p := 4) (u := 5) (by kernel_rfl) _ _ (w.heap.size + 1) _ _ _ _ rfl (setRow_heap _ _ _ _ _ _ hrs) Tryz.underlying38 rfl (by kernel_rfl)) rfl ⟨?_, below_setRowE HB1.out (Nat.le_succ _) _⟩
    rw [HI.out, HE.out]; rfl
  | true =>
    by_cases h0 : errW (wordA i a) = 0
    · obtain ⟨y, hy⟩ : ∃ y, insW (wordA i a) = y := ⟨_, rfl⟩
      have HD := hideE (decode_w (wordA i a) y hy h0)
      have E1 := hideE h0
      have E2 := hideE hy
      clear hy h0
      obtain ⟨op, rd, rs1, rs2, imm⟩ := y
      go_wp2_with fail
      refine (HD.out _).mono ?_
      rintro e w2 ⟨rfl, hb2⟩
      have hr2 : ∀ o, (w2.alloc o).heap[w.heap.size + 1]? = some (.cells Z5 38 (0, 0)) := fun o => keptN ((Below.refl _ w2).alloc (Nat.le_refl _) o) (keptN hb2 hrs)
      have HB2 := hideE (HB1.out.trans (hb2.mono HB1.out.size))
      clear hrs hb2
      go_wp2_with (refine wpList_store_row rfl 38 _ _ rfl (w.heap.size + 1) _ rfl rfl _ Z5 (hr2 _) (by kernel_rfl) rfl (by kernel_rfl) ?_)
      refine bodyPost_ret (v := .tuple #[.agg (insC ⟨op, rd, rs1, rs2, imm⟩), .int .i64 0]) (results_row_tmp (p := 4) (u := 5) (by kernel_rfl) _ _ (w.heap.size + 1) _ _ _ _ rfl (by exact setRow_heap _ _ _ _ _ _ (hr2 _)) Tryz.underlying38 rfl (by kernel_rfl)) rfl ⟨?_, below_setRowE (HB2.out.alloc HB2.out.size _) (Nat.le_succ _) _⟩
      rw [HI.out, HE.out, if_pos trivial, if_pos trivial, E1.out, E2.out]; rfl
    · have hk2 := errW_none h0
      obtain ⟨e1, e2⟩ := errW_of h0
      have E1 := hideE e1
      have E2 := hideE e2
      clear h0 e1 e2
      go_wp2_with fail
      refine (decode_none (wordA i a) hk2 _).mono ?_
      rintro e w2 ⟨rfl, hb2⟩
      have hr2 : ∀ o, (w2.alloc o).heap[w.heap.size + 1]? = some (.cells Z5 38 (0, 0)) := fun o => keptN ((Below.refl _ w2).alloc (Nat.le_refl _) o) (keptN hb2 hrs)
      have HB2 := hideE (HB1.out.trans (hb2.mono HB1.out.size))
      clear hrs hb2
      go_wp2_with (refine wpList_store_row rfl 38 _ _ rfl (w.heap.size + 1) _ rfl rfl _ Z5 (hr2 _) (by kernel_rfl) rfl (by kernel_rfl) ?_)
      refine bodyPost_ret (v := .tuple #[.agg (Z5), .int .i64 80]) (results_row_tmp (p := 4) (u := 5) (by kernel_rfl) _ _ (w.heap.size + 1) _ _ _ _ rfl (by exact setRow_heap _ _ _ _ _ _ (hr2 _)) Tryz.underlying38 rfl (by kernel_rfl)) rfl ⟨?_, below_setRowE (HB2.out.alloc HB2.out.size _) (Nat.le_succ _) _⟩
      rw [HI.out, HE.out, if_pos trivial, if_pos trivial, E1.out, E2.out]; rfl
end Go.Proofs.YtcffpmicencfpabGreat
namespace Go.Proofs.YtcffpmicencfpabGreat
open Go.RowKit Go.Lib Go.Sort Ip Bl
set_option linter.unusedSimpArgs false
set_option linter.unusedVariables false

/-! ### of no words -/
theorem insertion_nil (w : World) : Calls Tryz.prog 91 #[.slice none 0 0, .int .i64 0, .int .i64 0] w fun e w' => e = .returned (.tuple #[]) ∧ w' = w := by
  go_enter Tryz.func91, Tryz.ntmps91
  go_wp2
  go_loopw [6] (fun u W => u = .int .i64 1 ∧ W = w) (fun _ _ => 0)
  case atStart => exact ⟨rfl, rfl⟩
  case round =>
    obtain ⟨rfl, rfl⟩ := hrel
    go_wp2
    go_end0
    exact ⟨rfl, rfl⟩
theorem pdq_nil (w : World) : Calls Tryz.prog 81 #[.slice none 0 0, .int .i64 0, .int .i64 0, .int .i64 0] w fun e w' => e = .returned (.tuple #[]) ∧ w' = w := by
  go_enter Tryz.func81, Tryz.ntmps81
  go_wp2
  go_loopw [1, 2] (fun u v W => u = .int .i64 0 ∧ v = .int .i64 0 ∧ W = w) (fun _ _ _ => 0)
  case atStart => exact ⟨rfl, rfl, rfl⟩
  case round =>
    obtain ⟨rfl, rfl, rfl⟩ := hrel
    go_wp2_with (go_at_call 91; refine (insertion_nil _).mono ?_; rintro e w' ⟨rfl, rfl⟩)
    (try simp only [Exit.inBlock, Exit.then]); refine bodyPost_ret (results_none rfl _ _ _) rfl ?_
    exact ⟨rfl, rfl⟩
theorem sort_nil (w : World) : Calls Tryz.prog 66 #[.slice none 0 0] w fun e w' => e = .returned (.tuple #[]) ∧ w' = w := by
  go_enter Tryz.func66, Tryz.ntmps66
  go_wp2_with (first
    | (go_at_call 82; refine (len_u 0 (by omega) _).mono ?_; rintro e w' ⟨rfl, rfl⟩)
    | (go_at_call 81; refine (pdq_nil _).mono ?_; rintro e w' ⟨rfl, rfl⟩))
  go_end0
  exact ⟨rfl, rfl⟩

/-! ### behind the sort -/
theorem holds_block {w : World} {g : Nat} {cur : Array Value} {e : TypeId} {ss : List Int} (hb : w.heap[g]? = some (.cells cur e (0, 0))) (ht : cur.toList.take ss.length = ss.map U) : Holds U w g 0 ss.toArray := by
  intro j hj
  have hj' : j < ss.length := by simpa using hj
  refine ⟨?_, by simp [World.frozen?, hb]⟩
  have h1 : (cur.toList.take ss.length)[j]? = (ss.map U)[j]? := by rw [ht]
  rw [List.getElem?_take_of_lt hj'] at h1
  simp only [World.cell?, hb, Nat.zero_add]
  simp only [Option.isSome_none, Bool.false_eq_true, if_false]
  rw [← Array.getElem?_toList, h1]
  simp [hj']
theorem heap_put {w : World} {g n : Nat} {os : Array Obj} {cur : Array Value} {e : TypeId} {fr : Nat × Nat} (d : Array Int) (hb : w.heap[g]? = some (.cells cur e fr)) :
    (grow (putRow U (Sort.ahead w n) g 0 d) os).heap[g]? = some (.cells (putCells U 0 d cur) e fr) := by
  have hg : g < w.heap.size := (Array.getElem?_eq_some_iff.1 hb).1
  rw [heap_grow_old _ _ (by simpa using hg)]
  simp [putRow, mapBlock, Sort.ahead, Array.getElem?_modify, hb, onCells]
theorem grown_put {w : World} {g n : Nat} {os : Array Obj} (d : Array Int) : w.grownBy (grow (putRow U (Sort.ahead w n) g 0 d) os) (some g) := by
  refine ⟨rfl, rfl, rfl, by simp, fun k hk hne => ?_⟩
  rw [heap_grow_old _ _ (by simpa using hk)]
  have : g ≠ k := fun e => hne (by rw [e])
  simp [putRow, mapBlock, Sort.ahead, Array.getElem?_modify, this]
theorem take_put (cur : Array Value) (ts : List Int) (h : ts.length ≤ cur.size) : (putCells U 0 ts.toArray cur).toList.take ts.length = ts.map U := by
  apply List.ext_getElem?
  intro j
  by_cases hj : j < ts.length
  · rw [List.getElem?_take_of_lt hj, Array.getElem?_toList]
    simp [putCells, hj, show j < cur.size by omega]
  · rw [List.getElem?_take_eq_none (by omega), List.getElem?_eq_none (by simp; omega)]


/-! ### rows -/
def srtI (l : List Int) : List Int := l.mergeSort fun x y => decide (x ≤ y)
set_option maxHeartbeats 1000000 in
theorem sort_row (B : Nat) (ss : List Int) (v : Value) (w : World) (hrow : w.ownsRow B 22 1 v ss.length (ss.map U)) (hlen : ss.length < 4611686018427387904) (hB : B ≤ w.heap.size) :
    Calls Tryz.prog 66 #[v] w fun e w' => e = .returned (.tuple #[]) ∧ w'.ownsRow B 22 1 v ss.length ((srtI ss).map U) ∧ Below B w w' := by
  rcases hrow.2 with ⟨rfl, h0⟩ | ⟨g, cap, cur, rfl, hbase, hgb, h1, h2, h3, h4⟩
  · obtain rfl : ss = [] := List.eq_nil_of_length_eq_zero h0
    refine (sort_nil _).mono ?_
    rintro e w' ⟨rfl, rfl⟩
    exact ⟨rfl, by rw [show srtI [] = [] by simp [srtI]]; exact World.ownsRow_nil _ _ _ _, Below.refl _ _⟩
  · have hc := sort_u g 0 cap ss w (holds_block hgb (by simpa using h4)) (Array.getElem?_eq_some_iff.1 hgb).1 hlen
    refine hc.mono ?_
    rintro e w' ⟨rfl, n, os, rfl⟩
    refine ⟨rfl, ⟨by simp [srtI], .inr ⟨g, cap, putCells U 0 (srtI ss).toArray cur, rfl, hbase, heap_put _ hgb, h1, h2, by simp [putCells, h3], ?_⟩⟩, ?_⟩
    · have hl : (srtI ss).length = ss.length := by simp [srtI]
      have := take_put cur (srtI ss) (by rw [hl]; simp at h3; omega)
      rw [hl] at this
      rw [Nat.mul_one, this]
    · exact (Below.refl B w).grown (grown_put _) hB (fun k e => by cases e; exact hbase)

def cmpt : List Int → List Int
  | [a, b] => if a = b then [a] else [a, b]
  | l => l
theorem cells_upto2 {W : World} {B g cap : Nat} {a b : Int} (h : W.ownsRow B 22 1 (.slice (some ⟨g, 0, none⟩) 2 cap) 2 ([a, b].map U)) :
    W.cell? ⟨g, 0, none⟩ = some (U a) ∧ W.cell? ⟨g, 1, none⟩ = some (U b) ∧ W.frozen? ⟨g, 0, none⟩ = false ∧ W.frozen? ⟨g, 1, none⟩ = false :=
  ⟨by rw [h.cellAt 0 (by omega)]; rfl, by rw [h.cellAt 1 (by omega)]; rfl, h.frozenAt 0, h.frozenAt 1⟩
theorem own_one {W : World} {B : Nat} {t : TypeId} {g c : Nat} {x y : Value} (h : W.ownsRow B t 1 (.slice (some ⟨g, 0, none⟩) 2 c) 2 [x, y]) : W.ownsRow B t 1 (.slice (some ⟨g, 0, none⟩) 1 c) 1 [x] := by
  rcases h.2 with ⟨e, _⟩ | ⟨g', cap, cur, e, h1, h2, h3, h4, h5, h6⟩
  · cases e
  · injection e with e1 e2 e3
    injection e1 with e1
    injection e1 with e1
    subst e1 e3
    refine ⟨rfl, .inr ⟨g, c, cur, rfl, h1, h2, by omega, h4, h5, ?_⟩⟩
    have := congrArg (List.take 1) h6
    rw [List.take_take] at this
    exact this
set_option maxHeartbeats 2000000 in
theorem compact_row (B : Nat) (ss : List Int) (h2 : ss.length ≤ 2) (v : Value) (w : World) (hrow : w.ownsRow B 22 1 v ss.length (ss.map U)) :
    Calls Tryz.prog 73 #[v] w fun e w' => ∃ v', e = .returned v' ∧ w'.ownsRow B 22 1 v' (cmpt ss).length ((cmpt ss).map U) ∧ Below B w w' := by
  match ss, h2 with
  | [], _ =>
    obtain ⟨p, c, rfl⟩ := own_slice' hrow
    have HR := hideE hrow
    clear hrow
    simp only [List.length_nil] at HR ⊢
    go_enter Tryz.func73, Tryz.ntmps73
    go_wp2_with fail
    go_ret
    exact ⟨_, rfl, HR.out, Below.refl _ _⟩
  | [a], _ =>
    obtain ⟨p, c, rfl⟩ := own_slice' hrow
    have HR := hideE hrow
    clear hrow
    simp only [List.length_cons, List.length_nil] at HR ⊢
    go_enter Tryz.func73, Tryz.ntmps73
    go_wp2_with fail
    go_ret
    exact ⟨_, rfl, HR.out, Below.refl _ _⟩
  | [a, b], _ =>
    obtain ⟨p, c, rfl⟩ := own_slice' hrow
    obtain ⟨g, rfl⟩ := own_some hrow (by simp)
    obtain ⟨c0, c1, f0, f1⟩ := cells_upto2 hrow
    have hcap : 2 ≤ c := by
      rcases hrow.2 with ⟨e, _⟩ | ⟨g', cap, cur, e, _, _, h1, _⟩
      · cases e
      · injection e with _ _ e3; subst e3; exact h1
    have hg : B ≤ g := by
      rcases hrow.2 with ⟨e, _⟩ | ⟨g', cap, cur, e, h, _⟩
      · cases e
      · injection e with e1; injection e1 with e1; injection e1 with e1; omega
    have HR := hideE hrow
    clear hrow
    simp only [List.length_cons, List.length_nil] at HR ⊢
    by_cases hab : a = b
    · subst hab
      have hc : cmpt [a, a] = [a] := by simp [cmpt]
      rw [hc]
      go_enter Tryz.func73, Tryz.ntmps73
      go_wp2_with fail
      go_loopg [3] 0 (fun _ u W => u = .int .i64 1 ∧ W = w)
      case atStart => exact ⟨rfl, rfl⟩
      case round =>
        obtain ⟨rfl, rfl⟩ := hrel
        go_wp2_with fail
        go_quiet (fail)
        go_wp2_with fail
        go_loopg [3, 5] 0 (fun _ t u W => t = .int .i64 1 ∧ u = .int .i64 1 ∧ ∃ q, W = wr.drewN q)
        case atStart => exact ⟨rfl, rfl, _, rfl⟩
        case round =>
          obtain ⟨rfl, rfl, q, rfl⟩ := hrel
          have q1 : ∀ j, j < 1 → ((wr.drewN q).cell? ⟨g, 1 + j, none⟩).isSome = true := fun j hj => by
            obtain rfl : j = 0 := by omega
            show (wr.cell? ⟨g, 1, none⟩).isSome = true
            rw [c1]; rfl
          have q2 : ∀ j, j < 1 → (wr.drewN q).frozen? ⟨g, 1 + j, none⟩ = false := fun j hj => by
            obtain rfl : j = 0 := by omega
            exact f1
          have hcl : ∀ ty, (Builtin.clear_ #[24] ty #[.slice (some ⟨g, 1, none⟩) 1 (c - 1)]).run Tryz.prog (wr.drewN q) = .ok (.tuple #[]) ((wr.drewN q).setCell ⟨g, 1, none⟩ (U 0)) :=
            fun ty => Lib.run_clear_slice (wr.drewN q) 24 22 ty (U 0) Tryz.underlying24 (fun w => by kernel_rfl) rfl rfl g 1 1 (c - 1) (by omega) q1 q2
          clear q1 q2
          go_wp2_with fail
          go_ret
          refine ⟨_, rfl, ?_, ?_⟩
          · exact own_one (World.ownsRow.stored (w := wr.drewN q) HR.out 1 (U 0)).1
          · exact (drew_low wr q B).setCell hg (U 0)
    · have hc : cmpt [a, b] = [a, b] := by simp [cmpt, hab]
      have hne : (b == a) = false := by rw [beq_eq_false_iff_ne]; exact fun e => hab e.symm
      rw [hc]
      go_enter Tryz.func73, Tryz.ntmps73
      go_wp2_with fail
      go_loopg [3] 1 (fun n u W => ∃ q : Nat, W = w.drewN q ∧ u = .int .i64 (2 - (n : Int)) ∧ n ≤ 1)
      case atStart => exact ⟨0, rfl, rfl, by omega⟩
      case round =>
        obtain ⟨q, rfl, rfl, hn⟩ := hrel
        cases gk with
        | zero =>
          go_wp2_with fail
          go_ret
          exact ⟨_, rfl, HR.out, drew_low _ _ _⟩
        | succ n =>
          obtain rfl : n = 0 := by omega
          go_wp2_with fail
          go_quiet (fail)
          go_wp2_with fail
          go_roundg 0
          case measure => omega
          case rel => exact ⟨_, rfl, by simp, by omega⟩
end Go.Proofs.YtcffpmicencfpabGreat
