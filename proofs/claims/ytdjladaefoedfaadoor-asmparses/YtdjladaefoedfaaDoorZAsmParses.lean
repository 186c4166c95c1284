/-
  AsmParses (P5.1): the instruction of any text, or that it is none, is as the document says; for every input (the law reads at most 100 bytes).
  The walk of AsmParses.
  The walk of AsmBack.
-/
import Derived.Test.YtdjladaefoedfaaDoorRows
import Derived.Test.YtdjladaefoedfaaDoorTie
import Derived.Test.YtdjladaefoedfaaDoorCards
import Derived.WalkKit
import Derived.ProofKit
import Derived.OpenShut
import Derived.Carry
import Derived.ChangeMaps
import Derived.SevenTiedAt
import Derived.Test.YtdjladaefoedfaaDoorZA5
import Derived.Test.YtdjladaefoedfaaDoorZA6
import Derived.Test.YtdjladaefoedfaaDoorZB2
namespace Go.Proofs.YtdjladaefoedfaaDoor
open Go.RowKit Ip As Go.Lib
open Classical

/-- Two instructions' boxes. -/
structure BkAt (w : World) (x y : Ins) (W : World) : Prop where
  bx : W.heap[w.heap.size]? = some (.cells #[.int .i64 x.op, .int .i64 x.rd, .int .i64 x.rs1, .int .i64 x.rs2, .int .i64 x.imm] 23 (0, 0))
  yx : W.heap[w.heap.size + 1]? = some (.cells #[.int .i64 y.op, .int .i64 y.rd, .int .i64 y.rs1, .int .i64 y.rs2, .int .i64 y.imm] 23 (0, 0))
  low : Below w.heap.size w W
theorem BkAt.lt {w W : World} {x y : Ins} (h : BkAt w x y W) : w.heap.size + 1 < W.heap.size := (Array.getElem?_eq_some_iff.1 h.yx).1
theorem BkAt.below {w W W' : World} {x y : Ins} (h : BkAt w x y W) (hb : Below W.heap.size W W') : BkAt w x y W' := by
  have := h.lt
  exact ⟨by rw [hb.block _ (by omega)]; exact h.bx, by rw [hb.block _ (by omega)]; exact h.yx, h.low.trans (hb.mono (by omega))⟩
theorem BkAt.alloc {w W : World} {x y : Ins} (h : BkAt w x y W) (o : Obj) : BkAt w x y (W.alloc o) := h.below ((Below.refl _ _).alloc (Nat.le_refl _) _)
theorem BkAt.start (w : World) (x y : Ins) : BkAt w x y ((w.alloc (.cells #[.int .i64 x.op, .int .i64 x.rd, .int .i64 x.rs1, .int .i64 x.rs2, .int .i64 x.imm] 23)).alloc (.cells #[.int .i64 y.op, .int .i64 y.rd, .int .i64 y.rs1, .int .i64 y.rs2, .int .i64 y.imm] 23)) := by
  refine ⟨?_, ?_, ((Below.refl _ _).alloc (Nat.le_refl _) _).alloc (by simp) _⟩
  · rw [((Below.refl (w.heap.size + 1) (w.alloc _)).alloc (by simp) _).block _ (by omega)]; exact heap_alloc_new _ _
  · have := heap_alloc_new (w.alloc (.cells #[.int .i64 x.op, .int .i64 x.rd, .int .i64 x.rs1, .int .i64 x.rs2, .int .i64 x.imm] 23)) (.cells #[.int .i64 y.op, .int .i64 y.rd, .int .i64 y.rs1, .int .i64 y.rs2, .int .i64 y.imm] 23)
    simpa using this
theorem row5 {W : World} {g : Nat} {a b c d e : Int} {t : TypeId} {fr : Nat × Nat} (h : W.heap[g]? = some (.cells #[.int .i64 a, .int .i64 b, .int .i64 c, .int .i64 d, .int .i64 e] t fr)) :
    W.cell? ⟨g, 0, none⟩ = some (.int .i64 a) ∧ W.cell? ⟨g, 1, none⟩ = some (.int .i64 b) ∧ W.cell? ⟨g, 2, none⟩ = some (.int .i64 c) ∧ W.cell? ⟨g, 3, none⟩ = some (.int .i64 d) ∧ W.cell? ⟨g, 4, none⟩ = some (.int .i64 e) := by
  simp only [World.cell?, h]; exact ⟨rfl, rfl, rfl, rfl, rfl⟩
theorem sameX_ins (x y : Ins) : sameX x.op x.rd x.rs1 x.rs2 x.imm y.op y.rd y.rs1 y.rs2 y.imm = decide (x = y) := by
  unfold sameX
  cases x; cases y; simp
theorem cutMin (n : Nat) (m : Int) (hm : m = 100) : min (n : Int) m = ((min n 100 : Nat) : Int) := by omega
theorem txt_len (x : Ins) (h : Fine x) : (txt x).length ≤ 1000 := by
  obtain ⟨⟨d0, d1⟩, ⟨a0, a1⟩, ⟨b0, b1⟩, n0, n1⟩ := h.i64
  have e1 := rg_len x.rd d0 d1
  have e2 := rg_len x.rs1 a0 a1
  have e3 := rg_len x.rs2 b0 b1
  have e4 := Lib.itoa_length_le x.imm n0 n1
  have e5 := name_len x.op
  have e6 := plc_len x h
  unfold txt As.prts
  (repeat' split) <;> first
    | omega
    | (rw [join2]; simp only [List.length_append, List.length_cons, List.length_nil]; omega)
    | (rw [join3]; simp only [List.length_append, List.length_cons, List.length_nil]; omega)
    | (exfalso; simp_all)

set_option maxHeartbeats 4000000 in
set_option maxRecDepth 100000 in
theorem asmBack_a0 (x y : Ins) (s S : ByteArray) (hS : s.extract 0 (min (s.size : Int) 100).toNat = S) (hSs : S.size ≤ 100) (w : World) (hG : Gl w) (hx : x.ok = false) (hp : prs S.data.toList = none) :
    Calls Tryd.prog 6 #[x.val, y.val, .string s] w fun e w' => e = .returned (.bool true) ∧ Below w.heap.size w w' := by
  have HG : Hid (Gl w) := hG
  have hneq := neqX
  have heql := eqlX
  have hz := zeroX
  have ez := ps_none hp
  have EZ : Hid (psV S.data.toList = ⟨0, 0, 0, 0, 0⟩ ∧ psE S.data.toList = 50) := ez
  have Hx : Hid (x.ok = false) := hx
  clear hG hp hx ez
  cases x with
  | mk op rd rs1 rs2 imm =>
  cases y with
  | mk op' rd' rs1' rs2' imm' =>
  go_enter Tryd.func6, Tryd.ntmps6
  go_wp2_with fail
  have B0 := BkAt.start w ⟨op, rd, rs1, rs2, imm⟩ ⟨op', rd', rs1', rs2', imm'⟩
  refine (print_no ⟨op, rd, rs1, rs2, imm⟩ Hx.out _ (HG.out.grow B0.low)).mono ?_
  rintro e w1 ⟨rfl, hb⟩
  have B1 := B0.below hb
  clear hb B0
  obtain ⟨b0, b1, b2, b3, b4⟩ := row5 B1.yx
  go_wp2_with fail
  refine (print_any ⟨op', rd', rs1', rs2', imm'⟩ _ (HG.out.grow B1.low)).mono ?_
  rintro e w2 ⟨rfl, hb⟩
  have B2 := B1.below hb
  clear hb B1 b0 b1 b2 b3 b4
  go_wp2_with fail
  refine (parse_any S (by omega) _ (HG.out.grow B2.low)).mono ?_
  rintro e w4 ⟨he, hb⟩
  rw [EZ.out.1, EZ.out.2] at he
  subst he
  have B4 := B2.below hb
  clear hb B2
  go_wp2_with (go_at_call 11; refine (fixed5_any _ (HG.out.grow (B4.alloc _).low)).mono ?_; rintro e w5 ⟨rfl, hb⟩; have B5 := (B4.alloc _).below hb; clear hb)
  go_ret
  exact ⟨rfl, B5.low⟩

set_option maxHeartbeats 4000000 in
set_option maxRecDepth 100000 in
theorem asmBack_a1 (x y : Ins) (s S : ByteArray) (hS : s.extract 0 (min (s.size : Int) 100).toNat = S) (hSs : S.size ≤ 100) (w : World) (hG : Gl w) (hx : x.ok = false) (z : Ins) (hp : prs S.data.toList = some z) :
    Calls Tryd.prog 6 #[x.val, y.val, .string s] w fun e w' => e = .returned (.bool true) ∧ Below w.heap.size w w' := by
  have HG : Hid (Gl w) := hG
  have hneq := neqX
  have heql := eqlX
  have hz := zeroX
  have ez := ps_some hp
  obtain ⟨hzk, hzt⟩ := prs_some hp
  have Hzk : Hid (z.ok = true) := hzk
  have Hzt : Hid (txt z = S.data.toList) := hzt
  clear hzk hzt
  have EZ : Hid (psV S.data.toList = z ∧ psE S.data.toList = 0) := ez
  have Hx : Hid (x.ok = false) := hx
  clear hG hp hx ez
  cases x with
  | mk op rd rs1 rs2 imm =>
  cases y with
  | mk op' rd' rs1' rs2' imm' =>
  cases z with
  | mk op2 rd2 rs12 rs22 imm2 =>
  go_enter Tryd.func6, Tryd.ntmps6
  go_wp2_with fail
  have B0 := BkAt.start w ⟨op, rd, rs1, rs2, imm⟩ ⟨op', rd', rs1', rs2', imm'⟩
  refine (print_no ⟨op, rd, rs1, rs2, imm⟩ Hx.out _ (HG.out.grow B0.low)).mono ?_
  rintro e w1 ⟨rfl, hb⟩
  have B1 := B0.below hb
  clear hb B0
  obtain ⟨b0, b1, b2, b3, b4⟩ := row5 B1.yx
  go_wp2_with fail
  refine (print_any ⟨op', rd', rs1', rs2', imm'⟩ _ (HG.out.grow B1.low)).mono ?_
  rintro e w2 ⟨rfl, hb⟩
  have B2 := B1.below hb
  clear hb B1 b0 b1 b2 b3 b4
  go_wp2_with fail
  refine (parse_any S (by omega) _ (HG.out.grow B2.low)).mono ?_
  rintro e w4 ⟨he, hb⟩
  rw [EZ.out.1, EZ.out.2] at he
  subst he
  have B4 := B2.below hb
  clear hb B2
  go_wp2_with fail
  refine (print_yes ⟨op2, rd2, rs12, rs22, imm2⟩ _ Hzk.out Hzt.out _ (HG.out.grow (B4.alloc _).low)).mono ?_
  rintro e w5 ⟨rfl, hb⟩
  have B5 := (B4.alloc _).below hb
  clear hb B4
  go_wp2_with (go_at_call 11; refine (fixed5_any _ (HG.out.grow B5.low)).mono ?_; rintro e w6 ⟨rfl, hb⟩; have B6 := B5.below hb; clear hb)
  go_ret
  exact ⟨rfl, B6.low⟩

set_option maxHeartbeats 4000000 in
set_option maxRecDepth 100000 in
theorem asmBack_b0 (x y : Ins) (s S : ByteArray) (hS : s.extract 0 (min (s.size : Int) 100).toNat = S) (hSs : S.size ≤ 100) (w : World) (hG : Gl w) (hx : x.ok = true) (hy : y.ok = false) (hp : prs S.data.toList = none) :
    Calls Tryd.prog 6 #[x.val, y.val, .string s] w fun e w' => e = .returned (.bool true) ∧ Below w.heap.size w w' := by
  have HG : Hid (Gl w) := hG
  have hneq := neqX
  have heql := eqlX
  have hz := zeroX
  have ez := ps_none hp
  have EZ : Hid (psV S.data.toList = ⟨0, 0, 0, 0, 0⟩ ∧ psE S.data.toList = 50) := ez
  have Hx : Hid (x.ok = true) := hx
  have Hy : Hid (y.ok = false) := hy
  clear hG hp hx ez hy
  cases x with
  | mk op rd rs1 rs2 imm =>
  cases y with
  | mk op' rd' rs1' rs2' imm' =>
  go_enter Tryd.func6, Tryd.ntmps6
  go_wp2_with fail
  have B0 := BkAt.start w ⟨op, rd, rs1, rs2, imm⟩ ⟨op', rd', rs1', rs2', imm'⟩
  refine (print_yes ⟨op, rd, rs1, rs2, imm⟩ _ Hx.out rfl _ (HG.out.grow B0.low)).mono ?_
  rintro e w1 ⟨rfl, hb⟩
  have B1 := B0.below hb
  clear hb B0
  obtain ⟨b0, b1, b2, b3, b4⟩ := row5 B1.yx
  go_wp2_with fail
  refine (print_no ⟨op', rd', rs1', rs2', imm'⟩ Hy.out _ (HG.out.grow B1.low)).mono ?_
  rintro e w2 ⟨rfl, hb⟩
  have B2 := B1.below hb
  clear hb B1 b0 b1 b2 b3 b4
  go_wp2_with fail
  have hpx := ps_some (prs_txt Hx.out)
  refine (parse_any _ (by have := txt_len ⟨op, rd, rs1, rs2, imm⟩ (fine_of Hx.out); show (txt _).length ≤ _; omega) _ (HG.out.grow B2.low)).mono ?_
  rintro e w3 ⟨he, hb⟩
  rw [show (⟨(txt ⟨op, rd, rs1, rs2, imm⟩).toArray⟩ : ByteArray).data.toList = txt ⟨op, rd, rs1, rs2, imm⟩ from rfl, hpx.1, hpx.2] at he
  subst he
  have B3 := B2.below hb
  clear hb B2 hpx
  obtain ⟨x0, x1, x2, x3, x4⟩ := row5 B3.bx
  obtain ⟨y0, y1, y2, y3, y4⟩ := row5 B3.yx
  have hl1 := B3.lt
  have hl0 : w.heap.size < w3.heap.size := by omega
  have hsx : sameX op rd rs1 rs2 imm op rd rs1 rs2 imm = true := by unfold sameX; simp
  go_wp2_with fail
  refine (parse_any S (by omega) _ (HG.out.grow (B3.alloc _).low)).mono ?_
  rintro e w4 ⟨he, hb⟩
  rw [EZ.out.1, EZ.out.2] at he
  subst he
  have B4 := (B3.alloc _).below hb
  clear hb B3 x0 x1 x2 x3 x4 y0 y1 y2 y3 y4 hl0 hl1
  go_wp2_with (go_at_call 11; refine (fixed5_any _ (HG.out.grow (B4.alloc _).low)).mono ?_; rintro e w5 ⟨rfl, hb⟩; have B5 := (B4.alloc _).below hb; clear hb)
  go_ret
  exact ⟨rfl, B5.low⟩

set_option maxHeartbeats 4000000 in
set_option maxRecDepth 100000 in
theorem asmBack_b1 (x y : Ins) (s S : ByteArray) (hS : s.extract 0 (min (s.size : Int) 100).toNat = S) (hSs : S.size ≤ 100) (w : World) (hG : Gl w) (hx : x.ok = true) (hy : y.ok = false) (z : Ins) (hp : prs S.data.toList = some z) :
    Calls Tryd.prog 6 #[x.val, y.val, .string s] w fun e w' => e = .returned (.bool true) ∧ Below w.heap.size w w' := by
  have HG : Hid (Gl w) := hG
  have hneq := neqX
  have heql := eqlX
  have hz := zeroX
  have ez := ps_some hp
  obtain ⟨hzk, hzt⟩ := prs_some hp
  have Hzk : Hid (z.ok = true) := hzk
  have Hzt : Hid (txt z = S.data.toList) := hzt
  clear hzk hzt
  have EZ : Hid (psV S.data.toList = z ∧ psE S.data.toList = 0) := ez
  have Hx : Hid (x.ok = true) := hx
  have Hy : Hid (y.ok = false) := hy
  clear hG hp hx ez hy
  cases x with
  | mk op rd rs1 rs2 imm =>
  cases y with
  | mk op' rd' rs1' rs2' imm' =>
  cases z with
  | mk op2 rd2 rs12 rs22 imm2 =>
  go_enter Tryd.func6, Tryd.ntmps6
  go_wp2_with fail
  have B0 := BkAt.start w ⟨op, rd, rs1, rs2, imm⟩ ⟨op', rd', rs1', rs2', imm'⟩
  refine (print_yes ⟨op, rd, rs1, rs2, imm⟩ _ Hx.out rfl _ (HG.out.grow B0.low)).mono ?_
  rintro e w1 ⟨rfl, hb⟩
  have B1 := B0.below hb
  clear hb B0
  obtain ⟨b0, b1, b2, b3, b4⟩ := row5 B1.yx
  go_wp2_with fail
  refine (print_no ⟨op', rd', rs1', rs2', imm'⟩ Hy.out _ (HG.out.grow B1.low)).mono ?_
  rintro e w2 ⟨rfl, hb⟩
  have B2 := B1.below hb
  clear hb B1 b0 b1 b2 b3 b4
  go_wp2_with fail
  have hpx := ps_some (prs_txt Hx.out)
  refine (parse_any _ (by have := txt_len ⟨op, rd, rs1, rs2, imm⟩ (fine_of Hx.out); show (txt _).length ≤ _; omega) _ (HG.out.grow B2.low)).mono ?_
  rintro e w3 ⟨he, hb⟩
  rw [show (⟨(txt ⟨op, rd, rs1, rs2, imm⟩).toArray⟩ : ByteArray).data.toList = txt ⟨op, rd, rs1, rs2, imm⟩ from rfl, hpx.1, hpx.2] at he
  subst he
  have B3 := B2.below hb
  clear hb B2 hpx
  obtain ⟨x0, x1, x2, x3, x4⟩ := row5 B3.bx
  obtain ⟨y0, y1, y2, y3, y4⟩ := row5 B3.yx
  have hl1 := B3.lt
  have hl0 : w.heap.size < w3.heap.size := by omega
  have hsx : sameX op rd rs1 rs2 imm op rd rs1 rs2 imm = true := by unfold sameX; simp
  go_wp2_with fail
  refine (parse_any S (by omega) _ (HG.out.grow (B3.alloc _).low)).mono ?_
  rintro e w4 ⟨he, hb⟩
  rw [EZ.out.1, EZ.out.2] at he
  subst he
  have B4 := (B3.alloc _).below hb
  clear hb B3 x0 x1 x2 x3 x4 y0 y1 y2 y3 y4 hl0 hl1
  go_wp2_with fail
  refine (print_yes ⟨op2, rd2, rs12, rs22, imm2⟩ _ Hzk.out Hzt.out _ (HG.out.grow (B4.alloc _).low)).mono ?_
  rintro e w5 ⟨rfl, hb⟩
  have B5 := (B4.alloc _).below hb
  clear hb B4
  go_wp2_with (go_at_call 11; refine (fixed5_any _ (HG.out.grow B5.low)).mono ?_; rintro e w6 ⟨rfl, hb⟩; have B6 := B5.below hb; clear hb)
  go_ret
  exact ⟨rfl, B6.low⟩

set_option maxHeartbeats 4000000 in
set_option maxRecDepth 100000 in
theorem asmBack_c0 (x y : Ins) (s S : ByteArray) (hS : s.extract 0 (min (s.size : Int) 100).toNat = S) (hSs : S.size ≤ 100) (w : World) (hG : Gl w) (hx : x.ok = true) (hy : y.ok = true) (hp : prs S.data.toList = none) :
    Calls Tryd.prog 6 #[x.val, y.val, .string s] w fun e w' => e = .returned (.bool true) ∧ Below w.heap.size w w' := by
  have HG : Hid (Gl w) := hG
  have hneq := neqX
  have heql := eqlX
  have hz := zeroX
  have ez := ps_none hp
  have EZ : Hid (psV S.data.toList = ⟨0, 0, 0, 0, 0⟩ ∧ psE S.data.toList = 50) := ez
  have Hx : Hid (x.ok = true) := hx
  have Hy : Hid (y.ok = true) := hy
  clear hG hp hx ez hy
  cases x with
  | mk op rd rs1 rs2 imm =>
  cases y with
  | mk op' rd' rs1' rs2' imm' =>
  go_enter Tryd.func6, Tryd.ntmps6
  go_wp2_with fail
  have B0 := BkAt.start w ⟨op, rd, rs1, rs2, imm⟩ ⟨op', rd', rs1', rs2', imm'⟩
  refine (print_yes ⟨op, rd, rs1, rs2, imm⟩ _ Hx.out rfl _ (HG.out.grow B0.low)).mono ?_
  rintro e w1 ⟨rfl, hb⟩
  have B1 := B0.below hb
  clear hb B0
  obtain ⟨b0, b1, b2, b3, b4⟩ := row5 B1.yx
  go_wp2_with fail
  refine (print_yes ⟨op', rd', rs1', rs2', imm'⟩ _ Hy.out rfl _ (HG.out.grow B1.low)).mono ?_
  rintro e w2 ⟨rfl, hb⟩
  have B2 := B1.below hb
  clear hb B1 b0 b1 b2 b3 b4
  go_wp2_with fail
  have hpx := ps_some (prs_txt Hx.out)
  refine (parse_any _ (by have := txt_len ⟨op, rd, rs1, rs2, imm⟩ (fine_of Hx.out); show (txt _).length ≤ _; omega) _ (HG.out.grow B2.low)).mono ?_
  rintro e w3 ⟨he, hb⟩
  rw [show (⟨(txt ⟨op, rd, rs1, rs2, imm⟩).toArray⟩ : ByteArray).data.toList = txt ⟨op, rd, rs1, rs2, imm⟩ from rfl, hpx.1, hpx.2] at he
  subst he
  have B3 := B2.below hb
  clear hb B2 hpx
  obtain ⟨x0, x1, x2, x3, x4⟩ := row5 B3.bx
  obtain ⟨y0, y1, y2, y3, y4⟩ := row5 B3.yx
  have hl1 := B3.lt
  have hl0 : w.heap.size < w3.heap.size := by omega
  have hsx : sameX op rd rs1 rs2 imm op rd rs1 rs2 imm = true := by unfold sameX; simp
  have hxy : (txt ⟨op, rd, rs1, rs2, imm⟩ == txt ⟨op', rd', rs1', rs2', imm'⟩) = sameX op rd rs1 rs2 imm op' rd' rs1' rs2' imm' := by
    rw [show sameX op rd rs1 rs2 imm op' rd' rs1' rs2' imm' = decide (Ins.mk op rd rs1 rs2 imm = ⟨op', rd', rs1', rs2', imm'⟩) from sameX_ins ⟨op, rd, rs1, rs2, imm⟩ ⟨op', rd', rs1', rs2', imm'⟩]
    by_cases h : (Ins.mk op rd rs1 rs2 imm) = ⟨op', rd', rs1', rs2', imm'⟩
    · rw [h, decide_eq_true rfl, beq_self_eq_true]
    · rw [decide_eq_false h]; exact beq_eq_false_iff_ne.2 (fun e => h (txt_inj Hx.out Hy.out e))
  go_wp2_with fail
  refine (parse_any S (by omega) _ (HG.out.grow (B3.alloc _).low)).mono ?_
  rintro e w4 ⟨he, hb⟩
  rw [EZ.out.1, EZ.out.2] at he
  subst he
  have B4 := (B3.alloc _).below hb
  clear hb B3 x0 x1 x2 x3 x4 y0 y1 y2 y3 y4 hl0 hl1
  go_wp2_with (go_at_call 11; refine (fixed5_any _ (HG.out.grow (B4.alloc _).low)).mono ?_; rintro e w5 ⟨rfl, hb⟩; have B5 := (B4.alloc _).below hb; clear hb)
  go_ret
  exact ⟨rfl, B5.low⟩

set_option maxHeartbeats 4000000 in
set_option maxRecDepth 100000 in
theorem asmBack_c1 (x y : Ins) (s S : ByteArray) (hS : s.extract 0 (min (s.size : Int) 100).toNat = S) (hSs : S.size ≤ 100) (w : World) (hG : Gl w) (hx : x.ok = true) (hy : y.ok = true) (z : Ins) (hp : prs S.data.toList = some z) :
    Calls Tryd.prog 6 #[x.val, y.val, .string s] w fun e w' => e = .returned (.bool true) ∧ Below w.heap.size w w' := by
  have HG : Hid (Gl w) := hG
  have hneq := neqX
  have heql := eqlX
  have hz := zeroX
  have ez := ps_some hp
  obtain ⟨hzk, hzt⟩ := prs_some hp
  have Hzk : Hid (z.ok = true) := hzk
  have Hzt : Hid (txt z = S.data.toList) := hzt
  clear hzk hzt
  have EZ : Hid (psV S.data.toList = z ∧ psE S.data.toList = 0) := ez
  have Hx : Hid (x.ok = true) := hx
  have Hy : Hid (y.ok = true) := hy
  clear hG hp hx ez hy
  cases x with
  | mk op rd rs1 rs2 imm =>
  cases y with
  | mk op' rd' rs1' rs2' imm' =>
  cases z with
  | mk op2 rd2 rs12 rs22 imm2 =>
  go_enter Tryd.func6, Tryd.ntmps6
  go_wp2_with fail
  have B0 := BkAt.start w ⟨op, rd, rs1, rs2, imm⟩ ⟨op', rd', rs1', rs2', imm'⟩
  refine (print_yes ⟨op, rd, rs1, rs2, imm⟩ _ Hx.out rfl _ (HG.out.grow B0.low)).mono ?_
  rintro e w1 ⟨rfl, hb⟩
  have B1 := B0.below hb
  clear hb B0
  obtain ⟨b0, b1, b2, b3, b4⟩ := row5 B1.yx
  go_wp2_with fail
  refine (print_yes ⟨op', rd', rs1', rs2', imm'⟩ _ Hy.out rfl _ (HG.out.grow B1.low)).mono ?_
  rintro e w2 ⟨rfl, hb⟩
  have B2 := B1.below hb
  clear hb B1 b0 b1 b2 b3 b4
  go_wp2_with fail
  have hpx := ps_some (prs_txt Hx.out)
  refine (parse_any _ (by have := txt_len ⟨op, rd, rs1, rs2, imm⟩ (fine_of Hx.out); show (txt _).length ≤ _; omega) _ (HG.out.grow B2.low)).mono ?_
  rintro e w3 ⟨he, hb⟩
  rw [show (⟨(txt ⟨op, rd, rs1, rs2, imm⟩).toArray⟩ : ByteArray).data.toList = txt ⟨op, rd, rs1, rs2, imm⟩ from rfl, hpx.1, hpx.2] at he
  subst he
  have B3 := B2.below hb
  clear hb B2 hpx
  obtain ⟨x0, x1, x2, x3, x4⟩ := row5 B3.bx
  obtain ⟨y0, y1, y2, y3, y4⟩ := row5 B3.yx
  have hl1 := B3.lt
  have hl0 : w.heap.size < w3.heap.size := by omega
  have hsx : sameX op rd rs1 rs2 imm op rd rs1 rs2 imm = true := by unfold sameX; simp
  have hxy : (txt ⟨op, rd, rs1, rs2, imm⟩ == txt ⟨op', rd', rs1', rs2', imm'⟩) = sameX op rd rs1 rs2 imm op' rd' rs1' rs2' imm' := by
    rw [show sameX op rd rs1 rs2 imm op' rd' rs1' rs2' imm' = decide (Ins.mk op rd rs1 rs2 imm = ⟨op', rd', rs1', rs2', imm'⟩) from sameX_ins ⟨op, rd, rs1, rs2, imm⟩ ⟨op', rd', rs1', rs2', imm'⟩]
    by_cases h : (Ins.mk op rd rs1 rs2 imm) = ⟨op', rd', rs1', rs2', imm'⟩
    · rw [h, decide_eq_true rfl, beq_self_eq_true]
    · rw [decide_eq_false h]; exact beq_eq_false_iff_ne.2 (fun e => h (txt_inj Hx.out Hy.out e))
  go_wp2_with fail
  refine (parse_any S (by omega) _ (HG.out.grow (B3.alloc _).low)).mono ?_
  rintro e w4 ⟨he, hb⟩
  rw [EZ.out.1, EZ.out.2] at he
  subst he
  have B4 := (B3.alloc _).below hb
  clear hb B3 x0 x1 x2 x3 x4 y0 y1 y2 y3 y4 hl0 hl1
  go_wp2_with fail
  refine (print_yes ⟨op2, rd2, rs12, rs22, imm2⟩ _ Hzk.out Hzt.out _ (HG.out.grow (B4.alloc _).low)).mono ?_
  rintro e w5 ⟨rfl, hb⟩
  have B5 := (B4.alloc _).below hb
  clear hb B4
  go_wp2_with (go_at_call 11; refine (fixed5_any _ (HG.out.grow B5.low)).mono ?_; rintro e w6 ⟨rfl, hb⟩; have B6 := B5.below hb; clear hb)
  go_ret
  exact ⟨rfl, B6.low⟩

theorem cut_take (s : ByteArray) : s.extract 0 (min (s.size : Int) 100).toNat = ⟨(s.data.toList.take 100).toArray⟩ := by
  rw [ext_take]
  congr 2
  have : s.data.toList.length = s.size := (Lib.size_eq s).symm
  by_cases h : s.size ≤ 100
  · rw [List.take_of_length_le (by omega), List.take_of_length_le (by omega)]
  · rw [show (min (s.size : Int) 100).toNat = 100 by omega]
theorem asmBack_walk (x y : Ins) (s : ByteArray) (w : World) (hG : Gl w) (_ : s.size ≤ 9223372036854775807) :
    Calls Tryd.prog 6 #[x.val, y.val, .string s] w fun e w' => e = .returned (.bool true) ∧ Below w.heap.size w w' := by
  have hl : (⟨(s.data.toList.take 100).toArray⟩ : ByteArray).size ≤ 100 := by show (s.data.toList.take 100).length ≤ 100; simp; omega
  cases hx : x.ok
  · cases hp : prs (⟨(s.data.toList.take 100).toArray⟩ : ByteArray).data.toList with
    | none => exact asmBack_a0 x y s _ (cut_take s) hl w hG hx hp
    | some z => exact asmBack_a1 x y s _ (cut_take s) hl w hG hx z hp
  · cases hy : y.ok
    · cases hp : prs (⟨(s.data.toList.take 100).toArray⟩ : ByteArray).data.toList with
      | none => exact asmBack_b0 x y s _ (cut_take s) hl w hG hx hy hp
      | some z => exact asmBack_b1 x y s _ (cut_take s) hl w hG hx hy z hp
    · cases hp : prs (⟨(s.data.toList.take 100).toArray⟩ : ByteArray).data.toList with
      | none => exact asmBack_c0 x y s _ (cut_take s) hl w hG hx hy hp
      | some z => exact asmBack_c1 x y s _ (cut_take s) hl w hG hx hy z hp
end Go.Proofs.YtdjladaefoedfaaDoor
namespace Go.Proofs.YtdjladaefoedfaaDoor
open Go.RowKit Ip As Go.Lib

/-- One instruction's box. -/
structure OnAt (w : World) (g : Nat) (x : Ins) (W : World) : Prop where
  bx : W.heap[g]? = some (.cells #[.int .i64 x.op, .int .i64 x.rd, .int .i64 x.rs1, .int .i64 x.rs2, .int .i64 x.imm] 23 (0, 0))
  low : Below w.heap.size w W
theorem OnAt.lt {w W : World} {g : Nat} {x : Ins} (h : OnAt w g x W) : g < W.heap.size := (Array.getElem?_eq_some_iff.1 h.bx).1
theorem OnAt.below {w W W' : World} {g : Nat} {x : Ins} (h : OnAt w g x W) (hb : Below W.heap.size W W') : OnAt w g x W' :=
  ⟨by rw [hb.block _ h.lt]; exact h.bx, h.low.trans (hb.mono h.low.size)⟩
theorem OnAt.alloc {w W : World} {g : Nat} {x : Ins} (h : OnAt w g x W) (o : Obj) : OnAt w g x (W.alloc o) := h.below ((Below.refl _ _).alloc (Nat.le_refl _) _)
theorem OnAt.start {w W : World} (h : Below w.heap.size w W) (x : Ins) : OnAt w W.heap.size x (W.alloc (.cells #[.int .i64 x.op, .int .i64 x.rd, .int .i64 x.rs1, .int .i64 x.rs2, .int .i64 x.imm] 23)) :=
  ⟨heap_alloc_new _ _, h.alloc h.size _⟩

set_option maxHeartbeats 4000000 in
set_option maxRecDepth 100000 in
theorem asmParses_at (s S : ByteArray) (hS : s.extract 0 (min (s.size : Int) 100).toNat = S) (hSs : S.size ≤ 100) (op rd rs1 rs2 imm : Int) (hx : psV S.data.toList = ⟨op, rd, rs1, rs2, imm⟩) (w : World) (hG : Gl w) :
    Calls Tryd.prog 4 #[.string s] w fun e w' => e = .returned (.bool true) ∧ Below w.heap.size w w' := by
  have HG : Hid (Gl w) := hG
  have heql := eqlX
  have hz := zeroX
  obtain ⟨n, hn⟩ : ∃ n, psE S.data.toList = n := ⟨_, rfl⟩
  have HP : Hid (∀ W, Gl W → Calls Tryd.prog 16 #[.string S] W fun e w' => e = .returned (.tuple #[.agg #[.int .i64 op, .int .i64 rd, .int .i64 rs1, .int .i64 rs2, .int .i64 imm], .int .i64 n]) ∧ Below W.heap.size W w') := fun W g => by
    have := parse_any S (by omega) W g
    rw [hx, hn] at this; exact this
  have HQ : Hid (∀ W, Calls Tryd.prog 17 #[.string S] W fun e w' => e = .returned (.tuple #[.agg #[.int .i64 op, .int .i64 rd, .int .i64 rs1, .int .i64 rs2, .int .i64 imm], .int .i64 n]) ∧ Below W.heap.size W w') := fun W => by
    have := rparse_any S.data.toList (by rw [← Lib.size_eq]; omega) W
    rw [hx, hn] at this; exact this
  have hsame : sameX op rd rs1 rs2 imm op rd rs1 rs2 imm = true := by
    have := sameX_ins ⟨op, rd, rs1, rs2, imm⟩ ⟨op, rd, rs1, rs2, imm⟩
    simpa using this
  clear hG hx hn
  go_enter Tryd.func4, Tryd.ntmps4
  go_wp2_with fail
  refine (HP.out _ HG.out).mono ?_
  rintro e w1 ⟨rfl, hb1⟩
  go_wp2_with fail
  have B1 := OnAt.start hb1 ⟨op, rd, rs1, rs2, imm⟩
  refine (HQ.out _).mono ?_
  rintro e w2 ⟨rfl, hb2⟩
  have B2 := B1.below hb2
  clear hb2 B1
  go_wp2_with fail
  have C2 := OnAt.start B2.low ⟨op, rd, rs1, rs2, imm⟩
  refine (fixed5_any _ (HG.out.grow C2.low)).mono ?_
  rintro e w3 ⟨rfl, hb3⟩
  have B3 := (B2.alloc _).below hb3
  have C3 := C2.below hb3
  obtain ⟨a0, a1, a2, a3, a4⟩ := row5 B3.bx
  obtain ⟨b0, b1, b2, b3, b4⟩ := row5 C3.bx
  have hL := B3.low
  clear hb3 B3 C3 B2 C2 hb1
  go_wp2_with fail
  go_ret
  exact ⟨rfl, hL⟩
theorem asmParses_walk (s : ByteArray) (w : World) (hG : Gl w) (_ : s.size ≤ 9223372036854775807) :
    Calls Tryd.prog 4 #[.string s] w fun e w' => e = .returned (.bool true) ∧ Below w.heap.size w w' := by
  have hl : (⟨(s.data.toList.take 100).toArray⟩ : ByteArray).size ≤ 100 := by show (s.data.toList.take 100).length ≤ 100; simp; omega
  exact asmParses_at s _ (cut_take s) hl _ _ _ _ _ rfl w hG
end Go.Proofs.YtdjladaefoedfaaDoor
namespace Go.Proofs.YtdjladaefoedfaaDoor.asmParses
open Go.ChangeShapes Go.WideShapes Go.ChangeAt Go.RowKit Ip As
open Go.ChangeMaps (open_string shut_string)
set_option linter.unusedVariables false

theorem own : ownKnob Tryd.prog.godebug = none := by kernel_rfl

set_option maxRecDepth 100000 in
theorem lifted (os : Os) (started : os.Started) (H : Type) (enc : TypeId × Value → H) :
    ReturnsInHanded {} Tryd.checked os 4 .any (fun w args => (Rows.asmParsesSpec.pre enc Tryd.prog Tryd.f4 [] false w args ∧ laidMetH Tryd.prog laid5 w) ∧ sizedMet enc Tryd.prog Tryd.f4 (OpenSpec.ofChange Rows.asmParsesSpec) false w args)
      (Rows.asmParsesSpec.post enc Tryd.prog Tryd.f4 false true false false) := by
  refine returnsInHanded_of_change_and (C := Tryd.checked) (X := fun w _ => laidMetH Tryd.prog laid5 w) (fun _ _ _ hh h => h.of_heap hh) own started (by kernel_rfl) Tryd.func4
    (ChangeSpec.witness_shaped (enc := enc) (C := Tryd.checked) (os := os) (X := fun w _ => laidMetH Tryd.prog laid5 w) false (World.doorLaid Tryd.prog 400 os) #[.string ⟨#[]⟩] 8 rfl (World.shaped_of_RefB (by kernel_rfl) (by kernel_rfl)) (by kernel_rfl) (by kernel_rfl) (by kernel_rfl) (door_met os _)) ?_
  intro W base args ds gs before hval0 hW _ hsz0 hL _
  have hG := gl_of_laid hL
  have hval : ∀ (j : Nat) t v, Tryd.f4.params[j]? = some t → args[j]? = some v → Value.okWide Tryd.prog W .any base t v := hval0
  have hW' := hW
  obtain ⟨p, q, hA0, hV, rfl, hfz, hnd⟩ := hW
  have hA : DataW.TrodAll enc Tryd.prog W 0 (fun _ => true) true Tryd.f4.params.toList args.toList ds p := hA0
  rw [Tryd.params4] at hA hval
  obtain ⟨v0, vs0, d0, ds0, p0, q0, hargs, rfl, rfl, h0, r0⟩ := trodAll_cons hA
  obtain ⟨rfl, rfl, rfl⟩ := trodAll_nil r0
  obtain rfl : args = #[v0] := by cases args; simp_all
  obtain ⟨rfl, rfl⟩ := trodVars_none hV
  have hlt : ∀ x ∈ p0, x.block < W.heap.size := fun x hx => by simpa using hW'.lt x (by simpa using hx)
  have k0 := h0
  have l0 : ∀ x ∈ p0, x.block < W.heap.size := fun x hx => hlt x (by simp [hx])
  obtain ⟨s0, rfl, rfl, rfl, w0⟩ := open_string Tryd.underlying9 (hval 0 9 v0 rfl rfl) h0
  have b0 : s0.size ≤ 9223372036854775807 := by unfold maxLen at w0; omega
  clear hA0 hval0
  refine (asmParses_walk s0 W hG b0).mono fun e W' ⟨he, hg⟩ => ?_
  subst he
  exact ⟨_, rfl, _, _, _, [], _, [], hW', trodAll_mk1 (shut_bool Tryd.underlying4 _), (trodAll_cons_mk (Below.trod laidOut5 (by kernel_rfl) (of_decide_eq_true (by kernel_rfl)) k0 hg l0) trodAll_mk0), rfl, hg.frame _, fun h => by cases h⟩

theorem over : Rows.asmParsesRow.holds Tryd.pinned (OpenSpec.ofChange Rows.asmParsesSpec) :=
  OpenClaim.holds_of_wide 4 Tryd.f4 rfl rfl rfl rfl rfl rfl rfl ⟨rfl, rfl, rfl, rfl, rfl⟩ rfl rfl rfl rfl rfl (by kernel_rfl) Tryd.func4 (by kernel_rfl)
    (of_decide_eq_true (by kernel_rfl)) (by unfold Func.isWrapper; first | (rw [if_pos (by decide +kernel)]; kernel_rfl) | (rw [if_neg (by decide +kernel)]; exact ⟨rfl, rfl⟩))
    (fun os started H enc _ => lifted os started H enc)

theorem proved : Rows.AsmParsesCardSaid :=
  Claim7.holds_tied_plain_at .later [] [.data, .data, .data, .sentinel, .sentinel, .data] true Rows.asmParsesCard.stood.harness true
    over (fun _ h => by cases h) (by kernel_rfl) (fun _ h => by cases h) asmParses_row_tie rfl ⟨rfl, rfl⟩ (by kernel_rfl) rfl
    (fun f fn hf hfn => by
      obtain rfl : f = 4 := Option.some.inj ((show Tryd.prog.funcNamed "whetstone/whetstonelaw05.AsmParses" = some 4 by kernel_rfl).symm.trans hf) |>.symm
      obtain rfl : fn = Tryd.f4 := (Option.some.inj (Tryd.func4.symm.trans hfn)).symm
      exact ⟨by kernel_rfl, fun j t ht => by
        rw [Tryd.params4] at ht
        have hm : t ∈ [9] := by simpa using Array.mem_of_getElem? ht
        have hall : ([9].all fun u => !Tryd.prog.wantsStandIn u) = true := by kernel_rfl
        exact (show Tryd.prog.wantsStandIn t = false by simpa using List.all_eq_true.1 hall t hm)⟩)
    (by kernel_rfl)
#print axioms proved
end Go.Proofs.YtdjladaefoedfaaDoor.asmParses
