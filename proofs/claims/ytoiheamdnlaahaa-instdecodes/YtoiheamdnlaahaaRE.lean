/-
  Contract of the document's Encode.
-/
import Derived.Test.YtoiheamdnlaahaaRT
import Derived.Test.YtoiheamdnlaahaaRQ
import Derived.Test.YtoiheamdnlaahaaRB
import Derived.Deep.DeepCutAuto
import Derived.Deep.CutRange
namespace Go.Proofs.Ytoiheamdnlaahaa
open Go.RowKit Ip
set_option linter.unusedSimpArgs false

/-- The condition of a region that is walked may be made stronger on the way. -/
theorem wpAnyH_more {P : Program} {md : Region.Mode} {ops : Array Oper} {Q : Exit → Act → World → Prop} {S S' : World → Prop} (h : ∀ w, S' w → S w) : ∀ (fuel : Nat) (listed : Array Bool) (a : Act) (w : World), wpAnyH P md ops Q S' fuel listed a w → wpAnyH P md ops Q S fuel listed a w
  | 0, _, _, _, hh => hh
  | fuel + 1, _, _, _, hh => ⟨hh.1, fun i hi => wpOp_mono (fun a' w' h' => ⟨h _ h'.1, wpAnyH_more h fuel _ a' w' h'.2⟩) (hh.2 i hi)⟩

theorem rencode_no (op rd rs1 rs2 imm : Int) (h : right op rd rs1 rs2 imm = false) (w : World) : Calls Try.prog 13 #[.agg #[.int .i64 op, .int .i64 rd, .int .i64 rs1, .int .i64 rs2, .int .i64 imm]] w fun e w' => e = .returned (.tuple #[.int .u32 0, .int .i64 20]) ∧ Below w.heap.size w w' := by
  go_enter Try.func13, Try.ntmps13
  go_wp2_with fail
  refine (rright_any op rd rs1 rs2 imm _).mono ?_
  rintro e w1 ⟨rfl, hb1⟩
  go_wp2
  go_ret2
  exact ⟨rfl, ((Below.refl _ _).alloc (Nat.le_refl _) _).trans (hb1.mono (by simp))⟩

theorem pln_le (F : Nat) : pln F ≤ 32 := by
  unfold pln plc
  repeat' split
  all_goals decide
theorem plc_range (F j : Nat) : (plc F).getD j 0 < 32 := by
  have h : ∀ x ∈ plc F, x < 32 := by
    unfold plc
    repeat' split
    all_goals decide
  rw [List.getD_eq_getElem?_getD]
  cases e : (plc F)[j]? with
  | none => decide
  | some y => exact h y (List.mem_of_getElem? e)
theorem orAll_step (v : BitVec 32) (F j : Nat) (h : j < pln F) (w : BitVec 32) : orAll v 0 ((plc F).take (j + 1)) w = orBit (orAll v 0 ((plc F).take j) w) ((plc F).getD j 0) (v.getLsbD j) := by
  have hl : j < (plc F).length := h
  rw [List.take_succ_eq_append_getElem hl, orAll_snoc, List.length_take, Nat.min_eq_left (by omega), Nat.zero_add, List.getD_eq_getElem?_getD, List.getElem?_eq_getElem hl]; rfl
theorem or_to (V : BitVec 32) (q : Nat) : bits .or .u32 (V.toNat : Int) (2 ^ q % 4294967296) = ((orBit V (q : Int) true).toNat : Int) := by
  have e := Wd.shl_ (BitVec.ofNat 32 1) q
  rw [show (((BitVec.ofNat 32 1).toNat : Nat) : Int) = 1 from rfl, Int.one_mul] at e
  unfold orBit
  rw [e, Wd.or_, if_pos (by simp), Int.toNat_natCast]
theorem bitAt_nat2 (x : BitVec 32) (k : Nat) : bitAt x (k : Int) = x.getLsbD k := by
  unfold bitAt; rw [decide_eq_true (by omega), Int.toNat_natCast]; rfl
theorem bit_to (x : BitVec 32) (a k : Int) (b : Bool) (ha : a = (x.toNat : Int)) (hb : bitAt x k = b) (w : World) : Calls Try.prog 33 #[.int .u32 a, .int .i64 k] w fun e w' => e = .returned (.int .u32 (if b = true then 1 else 0)) ∧ w' = w := by
  subst ha
  have h := bit_any x k w
  rw [hb] at h
  cases b <;> exact h
theorem int_u32 {a b : Int} (h : a = b) : Value.int .u32 a = .int .u32 b := by rw [h]
theorem u32wrap (x : Int) : IntKind.u32.wrap x = x % 4294967296 := IntKind.wrap_u32 x
theorem tab_first (w : World) (C : Array Value) (t : TypeId) (k : Nat) {v : Value} (h : C[k]? = some v) : ((w.drew).alloc (.cells C t)).cell? ⟨w.heap.size, k, none⟩ = some v := by
  have e := World.cell?_alloc_at (w := w.drew) C t w.heap.size k rfl
  exact e.trans h
theorem tab_size (w : World) (o : Obj) : w.heap.size < ((w.drew).alloc o).heap.size := by rw [World.size_alloc]; exact Nat.lt_succ_self _
theorem tab_keep {W : World} {b k : Nat} {v : Value} (h : W.cell? ⟨b, k, none⟩ = some v) (hb : b < W.heap.size) (o : Obj) : (W.alloc o).cell? ⟨b, k, none⟩ = some v := by
  rw [World.cell?_alloc_past _ _ _ (by simpa using hb)]; exact h
theorem tab_more {W : World} {b : Nat} (hb : b < W.heap.size) (o : Obj) : b < (W.alloc o).heap.size := by rw [World.size_alloc]; omega
theorem tab_next (w : World) (n : Nat) (W : World) (C : Array Value) (t : TypeId) (k : Nat) {v : Value} (hs : W.heap.size = w.heap.size + n) (h : C[k]? = some v) : (W.alloc (.cells C t)).cell? ⟨w.heap.size + n, k, none⟩ = some v := by
  rw [World.cell?_alloc_at _ _ _ _ hs.symm]; exact h
theorem tab_next_size (w : World) (n : Nat) (W : World) (o : Obj) (hs : W.heap.size = w.heap.size + n) : w.heap.size + n < (W.alloc o).heap.size := by rw [World.size_alloc, hs]; omega
theorem tab_s1 (w : World) (o : Obj) : ((w.drew).alloc o).heap.size = w.heap.size + 1 := by rw [World.size_alloc]; rfl
theorem tab_s2 (w : World) (o o2 : Obj) : (((w.drew).alloc o).alloc o2).heap.size = w.heap.size + 2 := by rw [World.size_alloc, World.size_alloc]; rfl
set_option maxHeartbeats 4000000 in
theorem rencode_core (k : Nat) (hk : k < 45) (rd rs1 rs2 imm : Int) (hr : right (k : Int) rd rs1 rs2 imm = true) (r1 : 0 ≤ rd ∧ rd ≤ 31) (r2 : 0 ≤ rs1 ∧ rs1 ≤ 31) (r3 : 0 ≤ rs2 ∧ rs2 ≤ 31) (F O A B : Nat) (hF : F = kf k) (hO : O = ko k) (hA : A = k3 k) (hB : B = k7 k) (lO : O < 128) (lA : A < 8) (lB : B < 128) (w : World) :
    Calls Try.prog 13 #[.agg #[.int .i64 (k : Int), .int .i64 rd, .int .i64 rs1, .int .i64 rs2, .int .i64 imm]] w fun e w' => ∃ W0 : BitVec 32, (O : Int) + 4096 * A + 33554432 * B + 128 * rd + 32768 * rs1 + 1048576 * rs2 = (W0.toNat : Int) ∧ e = .returned (.tuple #[.int .u32 ((orAll (BitVec.ofInt 32 imm) 0 (plc F) W0).toNat : Int), .int .i64 0]) ∧ Below w.heap.size w w' := by
  have hTO : TO[k]? = some (.int .u32 (O : Int)) := by rw [hO]; exact TO_at k (by omega)
  have hT3 : T3[k]? = some (.int .u32 (A : Int)) := by rw [hA]; exact T3_at k (by omega)
  have hT7 : T7[k]? = some (.int .u32 (B : Int)) := by rw [hB]; exact T7_at k (by omega)
  have HF : Hid (F = frm (k : Int)) := show _ = _ by rw [hF, frm_nat]
  have H8 : Hid (is8 F) := show is8 F from hF ▸ is8_kf k (by omega)
  obtain ⟨p1, p2⟩ := r1
  obtain ⟨p3, p4⟩ := r2
  obtain ⟨p5, p6⟩ := r3
  have n45 : ((k : Int) == 45) = false := by rw [beq_eq_false_iff_ne]; omega
  have n46 : ((k : Int) == 46) = false := by rw [beq_eq_false_iff_ne]; omega
  have k47 : (k : Int) < 47 := by omega
  clear hF hO hA hB
  go_enter Try.func13, Try.ntmps13
  go_wp2_with fail
  refine (rright_any k rd rs1 rs2 imm _).mono ?_
  rintro e w1 ⟨rfl, hb1⟩
  have hS1 : Hid (HeldX w k rd rs1 rs2 imm w1) := (HeldX.start w k rd rs1 rs2 imm 24).below hb1
  obtain ⟨x0, x1, x2, x3, x4, _, hz1⟩ := hS1.out
  go_upto_region 7 with fail
  go_cut [4] (fun v wc => v = .int .u32 ((O : Int) + 4096 * A + 33554432 * B + 128 * rd + 32768 * rs1 + 1048576 * rs2) ∧ HeldX w k rd rs1 rs2 imm wc)
  case first =>
    clear x0 x1 x2 x3 x4
    refine wp_region_noPanic ?_
    refine wp_region_held_drew (S := (fun w' => HeldX w (k : Int) rd rs1 rs2 imm w')) (by kernel_rfl) (HeldX.drew hS1.out) (fun h0 => ?_)
    refine wpAnyH_take (i := 1) (v := ?_) rfl (by kernel_rfl) (by kernel_rfl) (by kernel_rfl) (fun _ _ _ h => h) (Or.inl ⟨by rfl, ?_⟩) h0 ?_
    rotate_left 1
    · intro w' hSw
      obtain ⟨s0, s1, s2, s3, s4, _, _⟩ := hSw
      go_simp <;> with_reducible rfl
    try simp only [Act.put, List.setIfInBounds_toArray, List.set_cons_zero, List.set_cons_succ]
    refine wpAnyH_take (i := 2) (v := ?_) rfl (by kernel_rfl) (by kernel_rfl) (by kernel_rfl) (fun _ _ _ h => h) (Or.inl ⟨by rfl, ?_⟩) h0 ?_
    rotate_left 1
    · intro w' hSw
      obtain ⟨s0, s1, s2, s3, s4, _, _⟩ := hSw
      go_simp <;> with_reducible rfl
    try simp only [Act.put, List.setIfInBounds_toArray, List.set_cons_zero, List.set_cons_succ]
    refine wpAnyH_take (i := 6) (v := ?_) rfl (by kernel_rfl) (by kernel_rfl) (by kernel_rfl) (fun _ _ _ h => h) (Or.inl ⟨by rfl, ?_⟩) h0 ?_
    rotate_left 1
    · intro w' hSw
      obtain ⟨s0, s1, s2, s3, s4, _, _⟩ := hSw
      go_simp <;> with_reducible rfl
    try simp only [Act.put, List.setIfInBounds_toArray, List.set_cons_zero, List.set_cons_succ]
    refine wpAnyH_take (i := 7) (v := ?_) rfl (by kernel_rfl) (by kernel_rfl) (by kernel_rfl) (fun _ _ _ h => h) (Or.inl ⟨by rfl, ?_⟩) h0 ?_
    rotate_left 1
    · intro w' hSw
      obtain ⟨s0, s1, s2, s3, s4, _, _⟩ := hSw
      go_simp <;> with_reducible rfl
    try simp only [Act.put, List.setIfInBounds_toArray, List.set_cons_zero, List.set_cons_succ]
    refine wpAnyH_take (i := 13) (v := ?_) rfl (by kernel_rfl) (by kernel_rfl) (by kernel_rfl) (fun _ _ _ h => h) (Or.inl ⟨by rfl, ?_⟩) h0 ?_
    rotate_left 1
    · intro w' hSw
      obtain ⟨s0, s1, s2, s3, s4, _, _⟩ := hSw
      go_simp <;> with_reducible rfl
    try simp only [Act.put, List.setIfInBounds_toArray, List.set_cons_zero, List.set_cons_succ]
    refine wpAnyH_take (i := 14) (v := ?_) rfl (by kernel_rfl) (by kernel_rfl) (by kernel_rfl) (fun _ _ _ h => h) (Or.inl ⟨by rfl, ?_⟩) h0 ?_
    rotate_left 1
    · intro w' hSw
      obtain ⟨s0, s1, s2, s3, s4, _, _⟩ := hSw
      go_simp <;> with_reducible rfl
    try simp only [Act.put, List.setIfInBounds_toArray, List.set_cons_zero, List.set_cons_succ]
    refine wpAnyH_take (i := 19) (v := ?_) rfl (by kernel_rfl) (by kernel_rfl) (by kernel_rfl) (fun _ _ _ h => h) (Or.inl ⟨by rfl, ?_⟩) h0 ?_
    rotate_left 1
    · intro w' hSw
      obtain ⟨s0, s1, s2, s3, s4, _, _⟩ := hSw
      go_simp <;> with_reducible rfl
    try simp only [Act.put, List.setIfInBounds_toArray, List.set_cons_zero, List.set_cons_succ]
    refine wpAnyH_take (i := 20) (v := ?_) rfl (by kernel_rfl) (by kernel_rfl) (by kernel_rfl) (fun _ _ _ h => h) (Or.inl ⟨by rfl, ?_⟩) h0 ?_
    rotate_left 1
    · intro w' hSw
      obtain ⟨s0, s1, s2, s3, s4, _, _⟩ := hSw
      go_simp <;> with_reducible rfl
    try simp only [Act.put, List.setIfInBounds_toArray, List.set_cons_zero, List.set_cons_succ]
    refine wpAnyH_take (i := 21) (v := ?_) rfl (by kernel_rfl) (by kernel_rfl) (by kernel_rfl) (fun _ _ _ h => h) (Or.inl ⟨by rfl, ?_⟩) h0 ?_
    rotate_left 1
    · intro w' hSw
      obtain ⟨s0, s1, s2, s3, s4, _, _⟩ := hSw
      go_simp <;> with_reducible rfl
    try simp only [Act.put, List.setIfInBounds_toArray, List.set_cons_zero, List.set_cons_succ]
    refine wpAnyH_take (i := 22) (v := ?_) rfl (by kernel_rfl) (by kernel_rfl) (by kernel_rfl) (fun _ _ _ h => h) (Or.inl ⟨by rfl, ?_⟩) h0 ?_
    rotate_left 1
    · intro w' hSw
      obtain ⟨s0, s1, s2, s3, s4, _, _⟩ := hSw
      go_simp <;> with_reducible rfl
    try simp only [Act.put, List.setIfInBounds_toArray, List.set_cons_zero, List.set_cons_succ]
    refine wpAnyH_take (i := 24) (v := ?_) rfl (by kernel_rfl) (by kernel_rfl) (by kernel_rfl) (fun _ _ _ h => h) (Or.inl ⟨by rfl, ?_⟩) h0 ?_
    rotate_left 1
    · intro w' hSw
      obtain ⟨s0, s1, s2, s3, s4, _, _⟩ := hSw
      go_simp <;> with_reducible rfl
    try simp only [Act.put, List.setIfInBounds_toArray, List.set_cons_zero, List.set_cons_succ]
    refine wpAnyH_take (i := 25) (v := ?_) rfl (by kernel_rfl) (by kernel_rfl) (by kernel_rfl) (fun _ _ _ h => h) (Or.inl ⟨by rfl, ?_⟩) h0 ?_
    rotate_left 1
    · intro w' hSw
      obtain ⟨s0, s1, s2, s3, s4, _, _⟩ := hSw
      go_simp <;> with_reducible rfl
    try simp only [Act.put, List.setIfInBounds_toArray, List.set_cons_zero, List.set_cons_succ]
    refine wpAnyH_take (i := 26) (v := ?_) rfl (by kernel_rfl) (by kernel_rfl) (by kernel_rfl) (fun _ _ _ h => h) (Or.inl ⟨by rfl, ?_⟩) h0 ?_
    rotate_left 1
    · intro w' hSw
      obtain ⟨s0, s1, s2, s3, s4, _, _⟩ := hSw
      go_simp <;> with_reducible rfl
    try simp only [Act.put, List.setIfInBounds_toArray, List.set_cons_zero, List.set_cons_succ]
    refine wpAnyH_take (i := 27) (v := ?_) rfl (by kernel_rfl) (by kernel_rfl) (by kernel_rfl) (fun _ _ _ h => h) (Or.inl ⟨by rfl, ?_⟩) h0 ?_
    rotate_left 1
    · intro w' hSw
      obtain ⟨s0, s1, s2, s3, s4, _, _⟩ := hSw
      go_simp <;> with_reducible rfl
    try simp only [Act.put, List.setIfInBounds_toArray, List.set_cons_zero, List.set_cons_succ]
    refine wpAnyH_take (i := 29) (v := ?_) rfl (by kernel_rfl) (by kernel_rfl) (by kernel_rfl) (fun _ _ _ h => h) (Or.inl ⟨by rfl, ?_⟩) h0 ?_
    rotate_left 1
    · intro w' hSw
      obtain ⟨s0, s1, s2, s3, s4, _, _⟩ := hSw
      go_simp <;> with_reducible rfl
    try simp only [Act.put, List.setIfInBounds_toArray, List.set_cons_zero, List.set_cons_succ]
    refine wpAnyH_take (i := 30) (v := ?_) rfl (by kernel_rfl) (by kernel_rfl) (by kernel_rfl) (fun _ _ _ h => h) (Or.inl ⟨by rfl, ?_⟩) h0 ?_
    rotate_left 1
    · intro w' hSw
      obtain ⟨s0, s1, s2, s3, s4, _, _⟩ := hSw
      go_simp <;> with_reducible rfl
    try simp only [Act.put, List.setIfInBounds_toArray, List.set_cons_zero, List.set_cons_succ]
    refine wpAnyH_take (i := 31) (v := ?_) rfl (by kernel_rfl) (by kernel_rfl) (by kernel_rfl) (fun _ _ _ h => h) (Or.inl ⟨by rfl, ?_⟩) h0 ?_
    rotate_left 1
    · intro w' hSw
      obtain ⟨s0, s1, s2, s3, s4, _, _⟩ := hSw
      go_simp <;> with_reducible rfl
    try simp only [Act.put, List.setIfInBounds_toArray, List.set_cons_zero, List.set_cons_succ]
    refine wpAnyH_take (i := 32) (v := ?_) rfl (by kernel_rfl) (by kernel_rfl) (by kernel_rfl) (fun _ _ _ h => h) (Or.inl ⟨by rfl, ?_⟩) h0 ?_
    rotate_left 1
    · intro w' hSw
      obtain ⟨s0, s1, s2, s3, s4, _, _⟩ := hSw
      go_simp <;> with_reducible rfl
    try simp only [Act.put, List.setIfInBounds_toArray, List.set_cons_zero, List.set_cons_succ]
    refine wpAnyH_ready (rs := [0]) (by kernel_rfl) (by simp) (AllReadyH.cons rfl (fun K hK => ?_) AllReadyH.nil)
    go_simp
    refine (rops_any _).mono ?_
    rintro e w2 ⟨rfl, rfl⟩
    dsimp only
    refine hK.out _ _ (HeldX.alloc h0 _) (fun _ => ?_)
    clear hK K
    refine wpAnyH_more (S' := (fun w' => HeldX w (k : Int) rd rs1 rs2 imm w' ∧ w'.cell? ⟨w1.heap.size, k, none⟩ = some (.int .u32 (O : Int)) ∧ w1.heap.size < w'.heap.size)) (fun _ h => h.1) _ _ _ _ ?_
    have h1 : (fun w' => HeldX w (k : Int) rd rs1 rs2 imm w' ∧ w'.cell? ⟨w1.heap.size, k, none⟩ = some (.int .u32 (O : Int)) ∧ w1.heap.size < w'.heap.size) ((w1.drew).alloc (.cells TO 22)) := ⟨HeldX.alloc h0 _, tab_first w1 _ _ _ hTO, tab_size w1 _⟩
    try simp only [Act.put, List.setIfInBounds_toArray, List.set_cons_zero, List.set_cons_succ]
    refine wpAnyH_take (i := 3) (v := ?_) rfl (by kernel_rfl) (by kernel_rfl) (by kernel_rfl) (fun _ _ _ h => h) (Or.inl ⟨by rfl, ?_⟩) h1 ?_
    rotate_left 1
    · intro w' hSw
      obtain ⟨⟨s0, s1, s2, s3, s4, _, _⟩, s5, _⟩ := hSw
      go_simp <;> with_reducible rfl
    try simp only [Act.put, List.setIfInBounds_toArray, List.set_cons_zero, List.set_cons_succ]
    refine wpAnyH_take (i := 4) (v := ?_) rfl (by kernel_rfl) (by kernel_rfl) (by kernel_rfl) (fun _ _ _ h => h) (Or.inl ⟨by rfl, ?_⟩) h1 ?_
    rotate_left 1
    · intro w' hSw
      obtain ⟨⟨s0, s1, s2, s3, s4, _, _⟩, s5, _⟩ := hSw
      go_simp <;> with_reducible rfl
    try simp only [Act.put, List.setIfInBounds_toArray, List.set_cons_zero, List.set_cons_succ]
    refine wpAnyH_ready (rs := [5]) (by kernel_rfl) (by simp) (AllReadyH.cons rfl (fun K hK => ?_) AllReadyH.nil)
    go_simp
    refine (rf3_any _).mono ?_
    rintro e w2 ⟨rfl, rfl⟩
    dsimp only
    refine hK.out _ _ ⟨HeldX.alloc h1.1 _, tab_keep h1.2.1 h1.2.2 _, tab_more h1.2.2 _⟩ (fun _ => ?_)
    clear hK K
    refine wpAnyH_more (S' := (fun w' => HeldX w (k : Int) rd rs1 rs2 imm w' ∧ w'.cell? ⟨w1.heap.size, k, none⟩ = some (.int .u32 (O : Int)) ∧ w1.heap.size < w'.heap.size ∧ w'.cell? ⟨w1.heap.size + 1, k, none⟩ = some (.int .u32 (A : Int)) ∧ w1.heap.size + 1 < w'.heap.size)) (fun _ h => ⟨h.1, h.2.1, h.2.2.1⟩) _ _ _ _ ?_
    have h2 : (fun w' => HeldX w (k : Int) rd rs1 rs2 imm w' ∧ w'.cell? ⟨w1.heap.size, k, none⟩ = some (.int .u32 (O : Int)) ∧ w1.heap.size < w'.heap.size ∧ w'.cell? ⟨w1.heap.size + 1, k, none⟩ = some (.int .u32 (A : Int)) ∧ w1.heap.size + 1 < w'.heap.size) (((w1.drew).alloc (.cells TO 22)).alloc (.cells T3 22)) := ⟨HeldX.alloc h1.1 _, tab_keep h1.2.1 h1.2.2 _, tab_more h1.2.2 _, tab_next w1 1 _ _ _ _ (tab_s1 w1 _) hT3, tab_next_size w1 1 _ _ (tab_s1 w1 _)⟩
    try simp only [Act.put, List.setIfInBounds_toArray, List.set_cons_zero, List.set_cons_succ]
    refine wpAnyH_take (i := 8) (v := ?_) rfl (by kernel_rfl) (by kernel_rfl) (by kernel_rfl) (fun _ _ _ h => h) (Or.inl ⟨by rfl, ?_⟩) h2 ?_
    rotate_left 1
    · intro w' hSw
      obtain ⟨⟨s0, s1, s2, s3, s4, _, _⟩, s5, _, s6, _⟩ := hSw
      go_simp <;> with_reducible rfl
    try simp only [Act.put, List.setIfInBounds_toArray, List.set_cons_zero, List.set_cons_succ]
    refine wpAnyH_take (i := 9) (v := ?_) rfl (by kernel_rfl) (by kernel_rfl) (by kernel_rfl) (fun _ _ _ h => h) (Or.inl ⟨by rfl, ?_⟩) h2 ?_
    rotate_left 1
    · intro w' hSw
      obtain ⟨⟨s0, s1, s2, s3, s4, _, _⟩, s5, _, s6, _⟩ := hSw
      go_simp <;> with_reducible rfl
    try simp only [Act.put, List.setIfInBounds_toArray, List.set_cons_zero, List.set_cons_succ]
    refine wpAnyH_take (i := 10) (v := ?_) rfl (by kernel_rfl) (by kernel_rfl) (by kernel_rfl) (fun _ _ _ h => h) (Or.inl ⟨by rfl, ?_⟩) h2 ?_
    rotate_left 1
    · intro w' hSw
      obtain ⟨⟨s0, s1, s2, s3, s4, _, _⟩, s5, _, s6, _⟩ := hSw
      go_simp <;> with_reducible rfl
    try simp only [Act.put, List.setIfInBounds_toArray, List.set_cons_zero, List.set_cons_succ]
    refine wpAnyH_take (i := 11) (v := ?_) rfl (by kernel_rfl) (by kernel_rfl) (by kernel_rfl) (fun _ _ _ h => h) (Or.inl ⟨by rfl, ?_⟩) h2 ?_
    rotate_left 1
    · intro w' hSw
      obtain ⟨⟨s0, s1, s2, s3, s4, _, _⟩, s5, _, s6, _⟩ := hSw
      go_simp <;> with_reducible rfl
    try simp only [Act.put, List.setIfInBounds_toArray, List.set_cons_zero, List.set_cons_succ]
    refine wpAnyH_ready (rs := [12]) (by kernel_rfl) (by simp) (AllReadyH.cons rfl (fun K hK => ?_) AllReadyH.nil)
    go_simp
    refine (rf7_any _).mono ?_
    rintro e w2 ⟨rfl, rfl⟩
    dsimp only
    refine hK.out _ _ ⟨HeldX.alloc h2.1 _, tab_keep h2.2.1 h2.2.2.1 _, tab_more h2.2.2.1 _, tab_keep h2.2.2.2.1 h2.2.2.2.2 _, tab_more h2.2.2.2.2 _⟩ (fun _ => ?_)
    clear hK K
    refine wpAnyH_more (S' := (fun w' => HeldX w (k : Int) rd rs1 rs2 imm w' ∧ w'.cell? ⟨w1.heap.size, k, none⟩ = some (.int .u32 (O : Int)) ∧ w1.heap.size < w'.heap.size ∧ w'.cell? ⟨w1.heap.size + 1, k, none⟩ = some (.int .u32 (A : Int)) ∧ w1.heap.size + 1 < w'.heap.size ∧ w'.cell? ⟨w1.heap.size + 2, k, none⟩ = some (.int .u32 (B : Int)) ∧ w1.heap.size + 2 < w'.heap.size)) (fun _ h => ⟨h.1, h.2.1, h.2.2.1, h.2.2.2.1, h.2.2.2.2.1⟩) _ _ _ _ ?_
    have h3 : (fun w' => HeldX w (k : Int) rd rs1 rs2 imm w' ∧ w'.cell? ⟨w1.heap.size, k, none⟩ = some (.int .u32 (O : Int)) ∧ w1.heap.size < w'.heap.size ∧ w'.cell? ⟨w1.heap.size + 1, k, none⟩ = some (.int .u32 (A : Int)) ∧ w1.heap.size + 1 < w'.heap.size ∧ w'.cell? ⟨w1.heap.size + 2, k, none⟩ = some (.int .u32 (B : Int)) ∧ w1.heap.size + 2 < w'.heap.size) ((((w1.drew).alloc (.cells TO 22)).alloc (.cells T3 22)).alloc (.cells T7 22)) := ⟨HeldX.alloc h2.1 _, tab_keep h2.2.1 h2.2.2.1 _, tab_more h2.2.2.1 _, tab_keep h2.2.2.2.1 h2.2.2.2.2 _, tab_more h2.2.2.2.2 _, tab_next w1 2 _ _ _ _ (tab_s2 w1 _ _) hT7, tab_next_size w1 2 _ _ (tab_s2 w1 _ _)⟩
    try simp only [Act.put, List.setIfInBounds_toArray, List.set_cons_zero, List.set_cons_succ]
    refine wpAnyH_take (i := 15) (v := ?_) rfl (by kernel_rfl) (by kernel_rfl) (by kernel_rfl) (fun _ _ _ h => h) (Or.inl ⟨by rfl, ?_⟩) h3 ?_
    rotate_left 1
    · intro w' hSw
      obtain ⟨⟨s0, s1, s2, s3, s4, _, _⟩, s5, _, s6, _, s7, _⟩ := hSw
      go_simp <;> with_reducible rfl
    try simp only [Act.put, List.setIfInBounds_toArray, List.set_cons_zero, List.set_cons_succ]
    refine wpAnyH_take (i := 16) (v := ?_) rfl (by kernel_rfl) (by kernel_rfl) (by kernel_rfl) (fun _ _ _ h => h) (Or.inl ⟨by rfl, ?_⟩) h3 ?_
    rotate_left 1
    · intro w' hSw
      obtain ⟨⟨s0, s1, s2, s3, s4, _, _⟩, s5, _, s6, _, s7, _⟩ := hSw
      go_simp <;> with_reducible rfl
    try simp only [Act.put, List.setIfInBounds_toArray, List.set_cons_zero, List.set_cons_succ]
    refine wpAnyH_take (i := 17) (v := ?_) rfl (by kernel_rfl) (by kernel_rfl) (by kernel_rfl) (fun _ _ _ h => h) (Or.inl ⟨by rfl, ?_⟩) h3 ?_
    rotate_left 1
    · intro w' hSw
      obtain ⟨⟨s0, s1, s2, s3, s4, _, _⟩, s5, _, s6, _, s7, _⟩ := hSw
      go_simp <;> with_reducible rfl
    try simp only [Act.put, List.setIfInBounds_toArray, List.set_cons_zero, List.set_cons_succ]
    refine wpAnyH_take (i := 18) (v := ?_) rfl (by kernel_rfl) (by kernel_rfl) (by kernel_rfl) (fun _ _ _ h => h) (Or.inl ⟨by rfl, ?_⟩) h3 ?_
    rotate_left 1
    · intro w' hSw
      obtain ⟨⟨s0, s1, s2, s3, s4, _, _⟩, s5, _, s6, _, s7, _⟩ := hSw
      go_simp <;> with_reducible rfl
    try simp only [Act.put, List.setIfInBounds_toArray, List.set_cons_zero, List.set_cons_succ]
    refine wpAnyH_take (i := 23) (v := ?_) rfl (by kernel_rfl) (by kernel_rfl) (by kernel_rfl) (fun _ _ _ h => h) (Or.inl ⟨by rfl, ?_⟩) h3 ?_
    rotate_left 1
    · intro w' hSw
      obtain ⟨⟨s0, s1, s2, s3, s4, _, _⟩, s5, _, s6, _, s7, _⟩ := hSw
      go_simp <;> with_reducible rfl
    try simp only [Act.put, List.setIfInBounds_toArray, List.set_cons_zero, List.set_cons_succ]
    refine wpAnyH_take (i := 28) (v := ?_) rfl (by kernel_rfl) (by kernel_rfl) (by kernel_rfl) (fun _ _ _ h => h) (Or.inl ⟨by rfl, ?_⟩) h3 ?_
    rotate_left 1
    · intro w' hSw
      obtain ⟨⟨s0, s1, s2, s3, s4, _, _⟩, s5, _, s6, _, s7, _⟩ := hSw
      go_simp <;> with_reducible rfl
    try simp only [Act.put, List.setIfInBounds_toArray, List.set_cons_zero, List.set_cons_succ]
    refine wpAnyH_take (i := 33) (v := ?_) rfl (by kernel_rfl) (by kernel_rfl) (by kernel_rfl) (fun _ _ _ h => h) (Or.inl ⟨by rfl, ?_⟩) h3 ?_
    rotate_left 1
    · intro w' hSw
      obtain ⟨⟨s0, s1, s2, s3, s4, _, _⟩, s5, _, s6, _, s7, _⟩ := hSw
      go_simp <;> with_reducible rfl
    try simp only [Act.put, List.setIfInBounds_toArray, List.set_cons_zero, List.set_cons_succ]
    refine wpAnyH_take (i := 34) (v := ?_) rfl (by kernel_rfl) (by kernel_rfl) (by kernel_rfl) (fun _ _ _ h => h) (Or.inl ⟨by rfl, ?_⟩) h3 ?_
    rotate_left 1
    · intro w' hSw
      obtain ⟨⟨s0, s1, s2, s3, s4, _, _⟩, s5, _, s6, _, s7, _⟩ := hSw
      go_simp <;> with_reducible rfl
    try simp only [Act.put, List.setIfInBounds_toArray, List.set_cons_zero, List.set_cons_succ]
    refine wpAnyH_done (by kernel_rfl) ?_ _
    refine NoPanic.normal ?_
    go_wp2_with fail
    go_meet
    case rel => exact ⟨int_u32 (by simp only [u32wrap]; omega), h3.1⟩
  case rest =>
    obtain ⟨rfl, hX⟩ := hcut
    have HX : Hid (HeldX w k rd rs1 rs2 imm wc) := hX
    obtain ⟨x0, x1, x2, x3, x4, hBc, hzc⟩ := hX
    clear x1 x2 x3 hS1
    go_wp2_with fail
    refine (rform_to (k : Int) F HF.out _).mono ?_
    rintro e w2 ⟨rfl, rfl⟩
    go_wp2_with fail
    refine (rplaces_any F H8.out _).mono ?_
    rintro e w3 ⟨rfl, rfl⟩
    obtain ⟨W, hW⟩ : ∃ W, W = w2.alloc (.cells (PA F) 3) := ⟨_, rfl⟩
    have y4 : W.cell? ⟨w.heap.size, 4, none⟩ = some (.int .i64 imm) := by rw [hW]; exact tab_keep x4 hzc _
    have yp : ∀ j, j < pln F → W.cell? ⟨w2.heap.size, j, none⟩ = some (.int .i64 ((plc F).getD j 0)) := fun j hj => by
      rw [hW, World.cell?_alloc_at _ _ _ _ rfl]; exact PA_at F j hj
    have hB : Below w.heap.size w W := by rw [hW]; exact hBc.alloc hBc.size _
    rw [← hW]
    clear hW x0 x4 hBc hzc HX
    obtain ⟨W0, hW0⟩ : ∃ W0 : BitVec 32, (O : Int) + 4096 * A + 33554432 * B + 128 * rd + 32768 * rs1 + 1048576 * rs2 = (W0.toNat : Int) := Wd.of_int _ (by omega) (by omega)
    have hL : pln F ≤ 32 := pln_le F
    rw [hW0]
    have HW0 : Hid ((O : Int) + 4096 * A + 33554432 * B + 128 * rd + 32768 * rs1 + 1048576 * rs2 = (W0.toNat : Int)) := hW0
    clear hW0
    go_wp2_with fail
    go_loop [4, 6] (fun v i => ∃ j : Nat, j ≤ pln F ∧ i = .int .i64 (j : Int) ∧ v = .int .u32 ((orAll (BitVec.ofInt 32 imm) 0 ((plc F).take j) W0).toNat : Int)) (fun _ i => (pln F : Nat) - (intOf i).toNat)
    case atStart => exact ⟨0, Nat.zero_le _, rfl, rfl⟩
    case round =>
      obtain ⟨j, hj, rfl, rfl⟩ := hrel
      by_cases hlt : j < pln F
      · have hc := yp j hlt
        have hsn := orAll_step (BitVec.ofInt 32 imm) F j hlt W0
        have hpr := plc_range F j
        obtain ⟨V, hV⟩ : ∃ V, orAll (BitVec.ofInt 32 imm) 0 ((plc F).take j) W0 = V := ⟨_, rfl⟩
        rw [hV] at hsn
        rw [hV]
        obtain ⟨pp, hpp⟩ : ∃ pp, (plc F).getD j 0 = pp := ⟨_, rfl⟩
        rw [hpp] at hc hsn hpr
        have HS : Hid (orAll (BitVec.ofInt 32 imm) 0 ((plc F).take (j + 1)) W0 = orBit V pp ((BitVec.ofInt 32 imm).getLsbD j)) := hsn
        clear hsn hV hpp yp
        by_cases h0 : 0 ≤ pp
        · obtain ⟨q, rfl⟩ := Int.eq_ofNat_of_zero_le h0
          have hbit := bitAt_nat2 (BitVec.ofInt 32 imm) j
          cases hb : (BitVec.ofInt 32 imm).getLsbD j
          · rw [hb] at hbit HS
            have HB : Hid (bitAt (BitVec.ofInt 32 imm) (j : Int) = false) := hbit
            clear hbit hb
            go_wp2_with fail
            refine (bit_to _ _ _ false (Wd.cut_ imm) HB.out _).mono ?_
            rintro e w4 ⟨rfl, rfl⟩
            go_wp2_with fail
            go_round
            case rel => exact ⟨j + 1, by omega, by go_num, int_u32 (by rw [HS.out]; rfl)⟩
            case measure => simp [intOf]; omega
          · rw [hb] at hbit HS
            have HB : Hid (bitAt (BitVec.ofInt 32 imm) (j : Int) = true) := hbit
            clear hbit hb
            go_wp2_with fail
            refine (bit_to _ _ _ true (Wd.cut_ imm) HB.out _).mono ?_
            rintro e w4 ⟨rfl, rfl⟩
            go_wp2_with fail
            go_round
            case rel => exact ⟨j + 1, by omega, by go_num, int_u32 (by rw [HS.out]; exact or_to V q)⟩
            case measure => simp [intOf]; omega
        · have HN : Hid (orBit V pp ((BitVec.ofInt 32 imm).getLsbD j) = V) := show _ = _ by unfold orBit; rw [if_neg (by omega)]
          go_wp2_with fail
          go_round
          case rel => exact ⟨j + 1, by omega, by go_num, int_u32 (by rw [HS.out, HN.out])⟩
          case measure => simp [intOf]; omega
      · have ej : j = pln F := by omega
        have HE : Hid ((plc F).take j = plc F) := show _ = _ by rw [ej]; exact List.take_length
        clear ej
        go_wp2_with fail
        go_ret2
        exact ⟨W0, HW0.out, ret_two (by rw [HE.out]) rfl, hB⟩
end Go.Proofs.Ytoiheamdnlaahaa
