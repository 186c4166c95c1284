/-
  What an instruction's reckoning comes to on a machine; Does.
-/
import Derived.Test.YtilphdfobflbiaaCB
import Derived.Test.YtilphdfobflbiaaIM
namespace Go.Proofs.Ytilphdfobflbiaa
open Go.RowKit Cp Ip

/-- What a plain instruction puts into its register, and whether it is plain. -/
def reckV (c : Mach) (op rs1 rs2 imm : Int) : BitVec 32 :=
  if op = 0 then numb imm <<< 12 else if op = 1 then numb imm <<< 12 + c.pc
  else if plainB op = true then Wd.run (plainV op) (c.x rs1.toNat) (numb imm)
  else Wd.run op (c.x rs1.toNat) (c.x rs2.toNat)
def isPlain (op : Int) : Bool := decide (op = 0 ∨ op = 1 ∨ 18 ≤ op ∧ op ≤ 44)
def reckW (c : Mach) (op rs1 rs2 imm : Int) : BitVec 32 := if isPlain op = true then reckV c op rs1 rs2 imm else (BitVec.ofNat 32 0)
theorem frm_off (op : Int) (h : ¬ (0 ≤ op ∧ op < 47)) : frm op = 0 := by
  unfold frm
  by_cases h0 : 0 ≤ op
  · rw [if_pos h0]; unfold kf; rw [List.getD_eq_getElem?_getD, List.getElem?_eq_none]; rfl; simp; omega
  · rw [if_neg h0]
theorem frm_U (op : Int) : frm op = 85 ↔ op = 0 ∨ op = 1 := by
  by_cases h : 0 ≤ op ∧ op < 47
  · obtain ⟨k, rfl⟩ := Int.eq_ofNat_of_zero_le h.1
    have hk : k < 47 := by omega
    clear h
    rw [frm_nat]
    revert k
    refine cases47 ?_ ?_ ?_ ?_ ?_ ?_ ?_ ?_ ?_ ?_ ?_ ?_ ?_ ?_ ?_ ?_ ?_ ?_ ?_ ?_ ?_ ?_ ?_ ?_ ?_ ?_ ?_ ?_ ?_ ?_ ?_ ?_ ?_ ?_ ?_ ?_ ?_ ?_ ?_ ?_ ?_ ?_ ?_ ?_ ?_ ?_ ?_
    all_goals decide
  · have : frm op = 0 := frm_off op h
    rw [this]; omega
theorem frm_R (op : Int) : frm op = 82 ↔ 27 ≤ op ∧ op ≤ 44 := by
  by_cases h : 0 ≤ op ∧ op < 47
  · obtain ⟨k, rfl⟩ := Int.eq_ofNat_of_zero_le h.1
    have hk : k < 47 := by omega
    clear h
    rw [frm_nat]
    revert k
    refine cases47 ?_ ?_ ?_ ?_ ?_ ?_ ?_ ?_ ?_ ?_ ?_ ?_ ?_ ?_ ?_ ?_ ?_ ?_ ?_ ?_ ?_ ?_ ?_ ?_ ?_ ?_ ?_ ?_ ?_ ?_ ?_ ?_ ?_ ?_ ?_ ?_ ?_ ?_ ?_ ?_ ?_ ?_ ?_ ?_ ?_ ?_ ?_
    all_goals decide
  · have : frm op = 0 := frm_off op h
    rw [this]; omega
structure Fine (op rd rs1 rs2 imm : Int) : Prop where
  right : right op rd rs1 rs2 imm = true
  rd0 : 0 ≤ rd
  rd1 : rd < 32
  a0 : 0 ≤ rs1
  a1 : rs1 < 32
  b0 : 0 ≤ rs2
  b1 : rs2 < 32
theorem fit_in {r : Int} {b : Bool} (h : fit r b = true) : 0 ≤ r ∧ r < 32 := by
  unfold fit at h; split at h <;> simp at h <;> omega
theorem fine_of {op rd rs1 rs2 imm : Int} (h : right op rd rs1 rs2 imm = true) : Fine op rd rs1 rs2 imm := by
  have h' := h
  unfold Ip.right at h'
  simp only [Bool.and_eq_true] at h'
  obtain ⟨⟨⟨⟨_, h1⟩, h2⟩, h3⟩, _⟩ := h'
  exact ⟨h, (fit_in h1).1, (fit_in h1).2, (fit_in h2).1, (fit_in h2).2, (fit_in h3).1, (fit_in h3).2⟩

theorem below_box {w w' : World} {g : Nat} {c : Mach} {t : TypeId} (h : Box t w g c) (hb : Below w.heap.size w w') : Box t w' g c := h.below hb
theorem ret_pair {a b : Int} {p q : Bool} (h : a = b) (k : p = q) : Ending.returned (.tuple #[.int .u32 a, .bool p]) = .returned (.tuple #[.int .u32 b, .bool q]) := by rw [h, k]
theorem drewN_low (w : World) (n B : Nat) : Below B w (w.drewN n) := ⟨rfl, rfl, rfl, Nat.le_refl _, fun _ _ => rfl⟩
/-- An instruction in block g. -/
structure InsAt (w : World) (g : Nat) (op rd rs1 rs2 imm : Int) : Prop where
  c0 : w.cell? ⟨g, 0, none⟩ = some (.int .i64 op)
  c1 : w.cell? ⟨g, 1, none⟩ = some (.int .i64 rd)
  c2 : w.cell? ⟨g, 2, none⟩ = some (.int .i64 rs1)
  c3 : w.cell? ⟨g, 3, none⟩ = some (.int .i64 rs2)
  c4 : w.cell? ⟨g, 4, none⟩ = some (.int .i64 imm)
  lt : g < w.heap.size
theorem InsAt.new (w : World) (op rd rs1 rs2 imm : Int) (t : TypeId) : InsAt (w.alloc (.cells #[.int .i64 op, .int .i64 rd, .int .i64 rs1, .int .i64 rs2, .int .i64 imm] t)) w.heap.size op rd rs1 rs2 imm := by
  constructor <;> first | (rw [World.cell?_alloc_at _ _ _ _ rfl]; rfl) | simp
theorem InsAt.below {w w' : World} {g : Nat} {op rd rs1 rs2 imm : Int} (h : InsAt w g op rd rs1 rs2 imm) (hb : Below w.heap.size w w') : InsAt w' g op rd rs1 rs2 imm := by
  obtain ⟨q, _⟩ := bcell hb
  exact ⟨(q _ _ h.lt).trans h.c0, (q _ _ h.lt).trans h.c1, (q _ _ h.lt).trans h.c2, (q _ _ h.lt).trans h.c3, (q _ _ h.lt).trans h.c4, Nat.lt_of_lt_of_le h.lt hb.size⟩
/-- A number of u32 behind a letter. -/
theorem word_of (x : BitVec 32) : ∃ X : BitVec 32, Hid (X = x) := ⟨x, rfl⟩

theorem isPlain_is (op : Int) : isPlain op = decide (frm op = 85 ∨ frm op = 82 ∨ plainB op = true) := by
  unfold isPlain plainB
  rw [Bool.eq_iff_iff]; simp only [decide_eq_true_eq, frm_U, frm_R]; omega

set_option maxHeartbeats 2000000 in
theorem reck_U {g : Nat} {c : Mach} (op rd rs1 rs2 imm : Int) (hf : Fine op rd rs1 rs2 imm) (hU : op = 0 ∨ op = 1) (w : World) (h : BoxC w g c) :
    Calls Try.prog 20 #[.pointer (some ⟨g, 0, none⟩), .agg #[.int .i64 op, .int .i64 rd, .int .i64 rs1, .int .i64 rs2, .int .i64 imm]] w fun e w' => e = .returned (.tuple #[.int .u32 ((reckW c op rs1 rs2 imm).toNat : Int), .bool (isPlain op)]) ∧ Below w.heap.size w w' := by
  have hfrm : frm op = 85 := (frm_U op).2 hU
  have hg := h.lt
  go_enter Try.func20, Try.ntmps20
  go_wp2_with fail
  refine (form_any op _).mono ?_
  rintro e w1 ⟨rfl, hb1⟩
  rw [hfrm]
  have h1 : BoxC w1 g c := (h.alloc _).below hb1
  obtain ⟨hc1, _⟩ := bcell hb1
  have lw : Below w.heap.size w w1 := ((Below.refl _ _).alloc (Nat.le_refl _) _).trans (hb1.mono (by simp))
  go_wp2_with fail
  refine (cnumber_any op rd rs1 rs2 imm _).mono ?_
  rintro e w2 ⟨rfl, hb2⟩
  obtain ⟨hc2, _⟩ := bcell hb2
  have hz : w.heap.size < w1.heap.size := by have := hb1.size; simp at this; omega
  have hp := (h1.below hb2).at
  have lw2 : Below w.heap.size w w2 := lw.trans (hb2.mono (by omega))
  obtain ⟨N, hN, HN⟩ : ∃ N : BitVec 32, ((numb imm).toNat : Int) * 4096 % 4294967296 = (N.toNat : Int) ∧ Hid (N = numb imm <<< 12) := ⟨_, Wd.shl_ (numb imm) 12, rfl⟩
  obtain ⟨M, hM, HM⟩ : ∃ M : BitVec 32, ((N.toNat : Int) + (c.pc.toNat : Int)) % 4294967296 = (M.toNat : Int) ∧ Hid (M = N + c.pc) := ⟨_, Wd.add_ N c.pc, rfl⟩
  rcases hU with rfl | rfl
  all_goals
    go_wp2_with fail
    go_ret2
    refine ⟨ret_pair ?_ rfl, lw2⟩
    first
      | exact hN.trans (by rw [HN.out]; rfl)
      | exact hM.trans (by rw [HM.out, HN.out]; rfl)
      | (rw [hN]; exact hM.trans (by rw [HM.out, HN.out]; rfl))

set_option maxHeartbeats 4000000 in
theorem reck_R {g : Nat} {c : Mach} (op rd rs1 rs2 imm : Int) (hf : Fine op rd rs1 rs2 imm) (hR : 27 ≤ op ∧ op ≤ 44) (w : World) (h : BoxC w g c) :
    Calls Try.prog 20 #[.pointer (some ⟨g, 0, none⟩), .agg #[.int .i64 op, .int .i64 rd, .int .i64 rs1, .int .i64 rs2, .int .i64 imm]] w fun e w' => e = .returned (.tuple #[.int .u32 ((reckW c op rs1 rs2 imm).toNat : Int), .bool (isPlain op)]) ∧ Below w.heap.size w w' := by
  have hfrm : frm op = 82 := (frm_R op).2 hR
  have hg := h.lt
  have HE : Hid (Wd.err op = 0) := by show Wd.err op = 0; unfold Wd.err Wd.known; rw [if_pos]; exact decide_eq_true hR
  have HW : Hid (reckW c op rs1 rs2 imm = Wd.run op (c.x rs1.toNat) (c.x rs2.toNat)) := by
    show reckW c op rs1 rs2 imm = _
    unfold reckW reckV isPlain plainB
    rw [if_pos (by simp; omega), if_neg (by omega), if_neg (by omega), if_neg (by simp; omega)]
  have HP : Hid (isPlain op = true) := by show isPlain op = true; unfold isPlain; simp; omega
  obtain ⟨_, _, _, ra0, ra1, rb0, rb1⟩ := hf
  obtain ⟨i, rfl⟩ := Int.eq_ofNat_of_zero_le ra0
  obtain ⟨j, rfl⟩ := Int.eq_ofNat_of_zero_le rb0
  have hi : i < 32 := by omega
  have hj : j < 32 := by omega
  rw [Int.toNat_natCast, Int.toNat_natCast] at HW
  go_enter Try.func20, Try.ntmps20
  go_wp2_with fail
  refine (form_any op _).mono ?_
  rintro e w1 ⟨rfl, hb1⟩
  rw [hfrm]
  have h1 : BoxC w1 g c := (h.alloc _).below hb1
  obtain ⟨hc1, _⟩ := bcell hb1
  have lw : Below w.heap.size w w1 := ((Below.refl _ _).alloc (Nat.le_refl _) _).trans (hb1.mono (by simp))
  have q1 := h1.reg i hi
  have q2 := h1.reg j hj
  obtain ⟨x0, x1, x2, x3, x4, x5⟩ := (InsAt.new w op rd i j imm 27).below hb1
  clear hfrm hR h hc1 hb1
  go_wp2_with fail
  go_quiet ((go_at_call 51; exact Calls.quiet_of_same (do_any _ _ _ _)))
  have hz : (Wd.err op == 0) = true := by rw [HE.out]; rfl
  go_wp2_with fail
  go_ret2
  refine ⟨?_, lw.trans (drewN_low _ _ _)⟩
  rw [HW.out, HP.out]
  exact ret_pair rfl rfl
/-- What holds while an instruction in block b is worked on, over the machine in block g. -/
def HeldI (w : World) (b g : Nat) (c : Mach) (i : Nat) (op rd rs1 rs2 imm : Int) (W : World) : Prop :=
  W.cell? ⟨b, 0, none⟩ = some (.int .i64 op) ∧ W.cell? ⟨b, 1, none⟩ = some (.int .i64 rd) ∧ W.cell? ⟨b, 2, none⟩ = some (.int .i64 rs1) ∧ W.cell? ⟨b, 3, none⟩ = some (.int .i64 rs2) ∧ W.cell? ⟨b, 4, none⟩ = some (.int .i64 imm) ∧ W.cell? ⟨g, i, none⟩ = some (.int .u32 ((c.x i).toNat : Int)) ∧ BoxC W g c ∧ Below w.heap.size w W ∧ b < W.heap.size ∧ i < 32
theorem HeldI.mk {w W : World} {b g : Nat} {c : Mach} {i : Nat} {op rd rs1 rs2 imm : Int} (h : InsAt W b op rd rs1 rs2 imm) (hb : BoxC W g c) (hl : Below w.heap.size w W) (hi : i < 32) : HeldI w b g c i op rd rs1 rs2 imm W :=
  ⟨h.c0, h.c1, h.c2, h.c3, h.c4, hb.reg i hi, hb, hl, h.lt, hi⟩
theorem HeldI.below {w W W' : World} {b g : Nat} {c : Mach} {i : Nat} {op rd rs1 rs2 imm : Int} (h : HeldI w b g c i op rd rs1 rs2 imm W) (hb : Below W.heap.size W W') : HeldI w b g c i op rd rs1 rs2 imm W' := by
  obtain ⟨h0, h1, h2, h3, h4, h5, h6, h7, h8, h9⟩ := h
  exact HeldI.mk ((InsAt.mk h0 h1 h2 h3 h4 h8).below hb) (h6.below hb) (h7.trans (hb.mono h7.size)) h9
theorem HeldI.drew {w W : World} {b g : Nat} {c : Mach} {i : Nat} {op rd rs1 rs2 imm : Int} (h : HeldI w b g c i op rd rs1 rs2 imm W) : HeldI w b g c i op rd rs1 rs2 imm W.drew := h.below (drewN_low W 1 _)

set_option maxHeartbeats 4000000 in
theorem reck_I {g : Nat} {c : Mach} (op rd rs1 rs2 imm : Int) (hf : Fine op rd rs1 rs2 imm) (hI : 18 ≤ op ∧ op ≤ 26) (w : World) (h : BoxC w g c) :
    Calls Try.prog 20 #[.pointer (some ⟨g, 0, none⟩), .agg #[.int .i64 op, .int .i64 rd, .int .i64 rs1, .int .i64 rs2, .int .i64 imm]] w fun e w' => e = .returned (.tuple #[.int .u32 ((reckW c op rs1 rs2 imm).toNat : Int), .bool (isPlain op)]) ∧ Below w.heap.size w w' := by
  have hU : frm op ≠ 85 := fun e => by have := (frm_U op).1 e; omega
  have hR : frm op ≠ 82 := fun e => by have := (frm_R op).1 e; omega
  have hg := h.lt
  have hB : plainB op = true := decide_eq_true hI
  have HE : Hid (Wd.err (plainV op) = 0) := by
    show Wd.err (plainV op) = 0
    have e : op = 18 ∨ op = 19 ∨ op = 20 ∨ op = 21 ∨ op = 22 ∨ op = 23 ∨ op = 24 ∨ op = 25 ∨ op = 26 := by omega
    rcases e with rfl | rfl | rfl | rfl | rfl | rfl | rfl | rfl | rfl <;> rfl
  have HW : Hid (reckW c op rs1 rs2 imm = Wd.run (plainV op) (c.x rs1.toNat) (numb imm)) := by
    show reckW c op rs1 rs2 imm = _
    unfold reckW reckV isPlain
    rw [if_pos (by simp; omega), if_neg (by omega), if_neg (by omega), if_pos hB]
  have HP : Hid (isPlain op = true) := by show isPlain op = true; unfold isPlain; simp; omega
  obtain ⟨_, _, _, ra0, ra1, rb0, rb1⟩ := hf
  obtain ⟨i, rfl⟩ := Int.eq_ofNat_of_zero_le ra0
  have hi : i < 32 := by omega
  rw [Int.toNat_natCast] at HW
  go_enter Try.func20, Try.ntmps20
  go_wp2_with fail
  refine (form_any op _).mono ?_
  rintro e w1 ⟨rfl, hb1⟩
  have h1 : BoxC w1 g c := (h.alloc _).below hb1
  have lw : Below w.heap.size w w1 := ((Below.refl _ _).alloc (Nat.le_refl _) _).trans (hb1.mono (by simp))
  have hH : Hid (HeldI w w.heap.size g c i op rd i rs2 imm w1) := HeldI.mk ((InsAt.new w op rd i rs2 imm 27).below hb1) h1 lw hi
  obtain ⟨x0, x1, x2, x3, x4, x5⟩ := (InsAt.new w op rd i rs2 imm 27).below hb1
  have f1 : ((frm op : Int) == 85) = false := by simp; omega
  have f2 : ((frm op : Int) == 82) = false := by simp; omega
  clear hU hR h hb1 h1 lw
  go_wp2_with fail
  refine (plain_any op _).mono ?_
  rintro e w2 ⟨rfl, rfl⟩
  rw [hB]
  go_wp2_with fail
  have hD := hH.out.drew
  go_region_held3 (fun W => W.cell? ⟨w.heap.size, 0, none⟩ = some (.int .i64 op) ∧ W.cell? ⟨w.heap.size, 1, none⟩ = some (.int .i64 rd) ∧ W.cell? ⟨w.heap.size, 2, none⟩ = some (.int .i64 (i : Int)) ∧ W.cell? ⟨w.heap.size, 3, none⟩ = some (.int .i64 rs2) ∧ W.cell? ⟨w.heap.size, 4, none⟩ = some (.int .i64 imm) ∧ W.cell? ⟨g, i, none⟩ = some (.int .u32 ((c.x i).toNat : Int)) ∧ BoxC W g c ∧ Below w.heap.size w W ∧ w.heap.size < W.heap.size ∧ i < 32)
    (first | assumption | exact hH.out.drew)
    (first
      | (go_at_call 50; refine (cnumber_any _ _ _ _ _ _).mono ?_; rintro e w3 ⟨rfl, hk⟩; have hS : HeldI w w.heap.size g c i op rd i rs2 imm w3 := HeldI.below (by assumption) hk)
      | (go_at_call 51; refine (do_any _ _ _ _).mono ?_; rintro e w4 ⟨rfl, rfl⟩))
  have hz : (Wd.err (plainV op) == 0) = true := by rw [HE.out]; rfl
  go_wp2_with fail
  go_ret2
  refine ⟨?_, ?_⟩
  · rw [HW.out, HP.out]
    exact ret_pair rfl rfl
  · exact hS.2.2.2.2.2.2.2.1
set_option maxHeartbeats 1000000 in
theorem reck_no {g : Nat} {c : Mach} (op rd rs1 rs2 imm : Int) (hn : isPlain op = false) (w : World) :
    Calls Try.prog 20 #[.pointer (some ⟨g, 0, none⟩), .agg #[.int .i64 op, .int .i64 rd, .int .i64 rs1, .int .i64 rs2, .int .i64 imm]] w fun e w' => e = .returned (.tuple #[.int .u32 ((reckW c op rs1 rs2 imm).toNat : Int), .bool (isPlain op)]) ∧ Below w.heap.size w w' := by
  have hp := hn
  rw [isPlain_is, decide_eq_false_iff_not] at hp
  have hU : frm op ≠ 85 := fun e => hp (.inl e)
  have hR : frm op ≠ 82 := fun e => hp (.inr (.inl e))
  have hB : plainB op = false := by cases e : plainB op with | false => rfl | true => exact absurd (.inr (.inr e)) hp
  have HW : Hid (reckW c op rs1 rs2 imm = (BitVec.ofNat 32 0)) := by show reckW c op rs1 rs2 imm = (BitVec.ofNat 32 0); unfold reckW; rw [if_neg (by simp [hn])]
  have HN : Hid (isPlain op = false) := hn
  clear hn hp
  go_enter Try.func20, Try.ntmps20
  go_wp2_with fail
  refine (form_any op _).mono ?_
  rintro e w1 ⟨rfl, hb1⟩
  have lw : Below w.heap.size w w1 := ((Below.refl _ _).alloc (Nat.le_refl _) _).trans (hb1.mono (by simp))
  obtain ⟨x0, x1, x2, x3, x4, x5⟩ := (InsAt.new w op rd rs1 rs2 imm 27).below hb1
  have f1 : ((frm op : Int) == 85) = false := by simp; omega
  have f2 : ((frm op : Int) == 82) = false := by simp; omega
  clear hU hR hb1
  go_wp2_with fail
  refine (plain_any op _).mono ?_
  rintro e w2 ⟨rfl, rfl⟩
  rw [hB]
  go_wp2_with fail
  go_ret2
  refine ⟨?_, lw⟩
  rw [HW.out, HN.out]
  exact ret_pair rfl rfl

theorem reck_any {g : Nat} {c : Mach} (op rd rs1 rs2 imm : Int) (hr : right op rd rs1 rs2 imm = true) (w : World) (h : BoxC w g c) :
    Calls Try.prog 20 #[.pointer (some ⟨g, 0, none⟩), .agg #[.int .i64 op, .int .i64 rd, .int .i64 rs1, .int .i64 rs2, .int .i64 imm]] w fun e w' => e = .returned (.tuple #[.int .u32 ((reckW c op rs1 rs2 imm).toNat : Int), .bool (isPlain op)]) ∧ Below w.heap.size w w' := by
  have hf := fine_of hr
  cases hp : isPlain op with
  | false => rw [← hp]; exact reck_no op rd rs1 rs2 imm hp w
  | true =>
    rw [← hp]
    have : op = 0 ∨ op = 1 ∨ 18 ≤ op ∧ op ≤ 44 := of_decide_eq_true hp
    by_cases h1 : op = 0 ∨ op = 1
    · exact reck_U op rd rs1 rs2 imm hf h1 w h
    · by_cases h2 : op ≤ 26
      · exact reck_I op rd rs1 rs2 imm hf (by omega) w h
      · exact reck_R op rd rs1 rs2 imm hf (by omega) w h
end Go.Proofs.Ytilphdfobflbiaa
