/-
  One step of a machine over a memory: what it answers, and the memory then.
-/
import Derived.Test.YtilphdfobflbiaaCJ
namespace Go.Proofs.Ytilphdfobflbiaa
open Go.RowKit Go.Maps Cp Ip Mm
set_option linter.unusedSimpArgs false

def deck (x : BitVec 32) : Option Nat := (List.range 47).find? (fun k => asked x k)
theorem deck_some {x : BitVec 32} {k : Nat} (h : deck x = some k) : k < 47 ∧ asked x k = true :=
  ⟨List.mem_range.1 (List.mem_of_find?_eq_some h), by simpa using List.find?_some h⟩
theorem deck_none {x : BitVec 32} (h : deck x = none) (k : Nat) (hk : k < 47) : asked x k = false := by
  have := List.find?_eq_none.1 h k (List.mem_range.2 hk)
  simpa using this
def fRd (x : BitVec 32) (k : Nat) : Int := regIf (hRd (kf k)) x 7
def fRs1 (x : BitVec 32) (k : Nat) : Int := regIf (hRs1 (kf k)) x 15
def fRs2 (x : BitVec 32) (k : Nat) : Int := regIf (hRs2 (kf k)) x 20
def fImm (x : BitVec 32) (k : Nat) : Int := number x (kf k)
def wordAt (l : Cs) (p : BitVec 32) : BitVec 32 := BitVec.ofInt 32 (Mm.num l (p.toNat : Int) 4)
/-- The machine, how it ended, the memory. -/
structure Out where
  c : Mach
  e : Int
  l : Cs
def insM (c : Mach) (l : Cs) (op rd rs1 rs2 imm : Int) : Out :=
  if isPlain op = true then ⟨doesM c op rd rs1 rs2 imm, 0, l⟩ else ⟨npM c l op rd rs1 rs2 imm, npE c op rs1 imm, npL c l op rs1 rs2 imm⟩
def stepM (c : Mach) (l : Cs) : Out :=
  if (c.pc.toNat : Int) % 4 ≠ 0 then ⟨zr c, 4, l⟩ else
  match deck (wordAt l c.pc) with
  | none => ⟨zr c, 3, l⟩
  | some k => insM (zr c) l k (fRd (wordAt l c.pc) k) (fRs1 (wordAt l c.pc) k) (fRs2 (wordAt l c.pc) k) (fImm (wordAt l c.pc) k)

theorem again_right (k : Nat) (h : k < 47) (x : BitVec 32) (ha : asked x k = true) : right (k : Int) (fRd x k) (fRs1 x k) (fRs2 x k) (fImm x k) = true := (again k h x ha).1
theorem word_num {l : Cs} (h : Rise l) (p : BitVec 32) : Mm.num l (p.toNat : Int) 4 = ((wordAt l p).toNat : Int) := by
  have hb := num_range h (p.toNat : Int) 4
  obtain ⟨V, e⟩ := Wd.of_int (Mm.num l (p.toNat : Int) 4) hb.1 (by omega)
  unfold wordAt
  rw [e, BitVec.ofInt_natCast, BitVec.ofNat_toNat, BitVec.setWidth_eq]

/-- While a step is made: the machine's box, that of the answer, the memory. -/
structure At2 (w : World) (c r : Mach) (pb bm : Nat) (l : Cs) (W : World) : Prop where
  box : BoxC W w.heap.size c
  res : BoxC W (w.heap.size + 1) r
  mem : MemAt W pb bm l
  low : Below w.heap.size w W
theorem At2.below {w W W' : World} {c r : Mach} {pb bm : Nat} {l : Cs} (h : At2 w c r pb bm l W) (hb : Below W.heap.size W W') : At2 w c r pb bm l W' :=
  ⟨h.box.below hb, h.res.below hb, h.mem.below hb, h.low.trans (hb.mono h.low.size)⟩
theorem At2.alloc {w W : World} {c r : Mach} {pb bm : Nat} {l : Cs} (h : At2 w c r pb bm l W) (o : Obj) : At2 w c r pb bm l (W.alloc o) := h.below ((Below.refl _ _).alloc (Nat.le_refl _) _)
theorem at2_start (w : World) (c : Mach) {pb bm : Nat} {l : Cs} (hm : MemAt w pb bm l) : At2 w c nought pb bm l ((w.alloc (.cells (cells c) 25)).alloc (.cells (cells nought) 25)) := by
  have r := Box.new (t := 25) (w.alloc (.cells (cells c) 25)) nought
  simp only [World.size_alloc] at r
  have lo : Below w.heap.size w ((w.alloc (.cells (cells c) 25)).alloc (.cells (cells nought) 25)) := ((Below.refl _ _).alloc (Nat.le_refl _) _).alloc (by simp) _
  exact ⟨(Box.new w c).alloc _, r, hm.below lo, lo⟩

set_option maxRecDepth 100000 in
set_option maxHeartbeats 8000000 in
theorem step_any {pb bm : Nat} {l : Cs} (c : Mach) (w : World) (hm : MemAt w pb bm l) :
    Calls Try.prog 16 #[.agg (cells c), .pointer (some ⟨pb, 0, none⟩)] w fun e w' => e = .returned (.tuple #[.agg (cells (stepM c l).c), .int .i64 (stepM c l).e]) ∧ MemAt w' pb bm (stepM c l).l ∧ w.grownBy w' (some bm) := by
  have hz := zeroC
  have hc0 : ((cells c)[0]?) = some (.int .u32 ((c.x 0).toNat : Int)) := cells_x c 0 (by omega)
  have hcs := cells_size c
  have hcz := cells_zr c
  have A0 := at2_start w (zr c) hm
  have hpc : (cells (zr c))[32]? = some (.int .u32 (c.pc.toNat : Int)) := cells_pc (zr c)
  have hl := hm.lt
  have hl' := hm.lt'
  by_cases h4 : (c.pc.toNat : Int) % 4 = 0
  · have ht : ((c.pc.toNat : Int) % 4 != 0) = false := by simpa using h4
    go_enter Try.func16, Try.ntmps16
    go_wp2_with fail
    refine (load_any _ A0.mem ⟨by omega, Wd.lt c.pc⟩ (Or.inr (Or.inr rfl))).mono ?_
    rintro e w1 ⟨rfl, rfl⟩
    have hn : Mm.num l (c.pc.toNat : Int) (Int.toNat 4) = ((wordAt l c.pc).toNat : Int) := word_num hm.rise c.pc
    have HS : Hid (stepM c l = match deck (wordAt l c.pc) with | none => ⟨zr c, 3, l⟩ | some k => insM (zr c) l k (fRd (wordAt l c.pc) k) (fRs1 (wordAt l c.pc) k) (fRs2 (wordAt l c.pc) k) (fImm (wordAt l c.pc) k)) := by
      show stepM c l = _
      unfold stepM; rw [if_neg (by simpa using h4)]
    rw [hn]
    clear hn hc0 hcs hcz hpc
    generalize wordAt l c.pc = X at HS ⊢
    cases hd : deck X with
    | none =>
      rw [hd] at HS
      have hno := deck_none hd
      go_wp2_with fail
      refine (decode_none X hno _).mono ?_
      rintro e w2 ⟨rfl, hb2⟩
      have A2 := (A0.below hb2).alloc (.cells #[.int .i64 0, .int .i64 0, .int .i64 0, .int .i64 0, .int .i64 0] 27)
      clear hb2 hno hd A0
      go_wp2_with (first
        | (refine wpList_load_row rfl 25 _ rfl w.heap.size rfl _ _ _ _ A2.box Try.underlying25 rfl (infoCs _) ?_)
        | (refine wpList_store_row rfl 25 _ _ rfl (w.heap.size + 1) _ rfl rfl _ _ A2.res (infoCs _) (cells_same _ _) (cells_one _) ?_))
      rw [HS.out]
      have lo := below_row A2.low (by omega : w.heap.size ≤ w.heap.size + 1) (cells (zr c))
      exact bodyPost_ret (results_row_tmp (p := 4) (u := 5) (by kernel_rfl) _ _ (w.heap.size + 1) _ _ _ _ rfl (A2.res.setRow _) Try.underlying25 rfl (infoCs _)) rfl
        ⟨rfl, hm.below lo, grown_of_below lo⟩
    | some k =>
      rw [hd] at HS
      obtain ⟨hk, ha⟩ := deck_some hd
      have hr := again_right k hk X ha
      go_wp2_with fail
      refine (decode_kind X k hk ha _).mono ?_
      rintro e w2 ⟨rfl, hb2⟩
      have A2 := (A0.below hb2)
      clear hb2 hd A0 ha
      change Hid (stepM c l = insM (zr c) l k (fRd X k) (fRs1 X k) (fRs2 X k) (fImm X k)) at HS
      have e1 : regIf (hRd (kf k)) X 7 = fRd X k := rfl
      have e2 : regIf (hRs1 (kf k)) X 15 = fRs1 X k := rfl
      have e3 : regIf (hRs2 (kf k)) X 20 = fRs2 X k := rfl
      have e4 : number X (kf k) = fImm X k := rfl
      rw [e1, e2, e3, e4]
      clear e1 e2 e3 e4
      generalize fRd X k = rd at HS hr ⊢
      generalize fRs1 X k = rs1 at HS hr ⊢
      generalize fRs2 X k = rs2 at HS hr ⊢
      generalize fImm X k = imm at HS hr ⊢
      have hpr : doesB (k : Int) rd rs1 rs2 imm = isPlain (k : Int) := by unfold doesB; rw [hr]; rfl
      have A3 := A2.alloc (.cells #[.int .i64 (k : Int), .int .i64 rd, .int .i64 rs1, .int .i64 rs2, .int .i64 imm] 27)
      have I3 := InsAt.new w2 k rd rs1 rs2 imm 27
      go_wp2_with (first
        | (refine wpList_load_row rfl 25 _ rfl w.heap.size rfl _ _ _ _ A3.box Try.underlying25 rfl (infoCs _) ?_))
      refine (does_any4 (zr c) k rd rs1 rs2 imm _).mono ?_
      rintro e w3 ⟨rfl, hb3⟩
      have A4 := A3.below hb3
      have I4 := I3.below hb3
      rw [hpr]
      clear hb3 A3 I3 A2
      cases hp : isPlain (k : Int) with
      | true =>
        have HO : Hid (stepM c l = ⟨doesM (zr c) k rd rs1 rs2 imm, 0, l⟩) := by
          show stepM c l = _
          rw [HS.out]; unfold insM; rw [if_pos hp]
        clear hp hpr HS
        have A5 := A4.alloc (.cells (cells nought) 25)
        have N5 := Box.new (t := 25) w3 nought
        have N6 := N5.setRow (doesM (zr c) k rd rs1 rs2 imm)
        have R6 := A5.res.otherRow w3.heap.size (cells (doesM (zr c) k rd rs1 rs2 imm)) (by have := A4.res.lt; omega)
        have hlt := A4.res.lt
        have lo6 : Below w.heap.size w ((w3.alloc (.cells (cells nought) 25)).setRow w3.heap.size (cells (doesM (zr c) k rd rs1 rs2 imm))) := below_row A5.low (by omega) _
        go_wp2_with (first
          | (refine wpList_load_row rfl 25 _ rfl w3.heap.size rfl _ _ _ _ N6 Try.underlying25 rfl (infoCs _) ?_)
          | (refine wpList_store_row rfl 25 _ _ rfl w3.heap.size _ rfl rfl _ _ N5 (infoCs _) (cells_same _ _) (cells_one _) ?_)
          | (refine wpList_store_row rfl 25 _ _ rfl (w.heap.size + 1) _ rfl rfl _ _ R6 (infoCs _) (cells_same _ _) (cells_one _) ?_))
        rw [HO.out]
        have lo := below_row lo6 (by omega : w.heap.size ≤ w.heap.size + 1) (cells (doesM (zr c) k rd rs1 rs2 imm))
        exact bodyPost_ret (results_row_tmp (p := 4) (u := 5) (by kernel_rfl) _ _ (w.heap.size + 1) _ _ _ _ rfl (R6.setRow _) Try.underlying25 rfl (infoCs _)) rfl
          ⟨rfl, hm.below lo, grown_of_below lo⟩
      | false =>
        have HO : Hid (stepM c l = ⟨npM (zr c) l k rd rs1 rs2 imm, npE (zr c) k rs1 imm, npL (zr c) l k rs1 rs2 imm⟩) := by
          show stepM c l = _
          rw [HS.out]; unfold insM; rw [if_neg (by simp [hp])]
        clear hpr HS
        have A5 := A4.alloc (.cells (cells nought) 25)
        have N5 := Box.new (t := 25) w3 nought
        have hlt := A4.res.lt
        have hlt2 := I4.lt
        have I6 := insAt_row (insAt_alloc I4 (.cells (cells nought) 25)) w3.heap.size (cells (doesM (zr c) k rd rs1 rs2 imm)) (by omega)
        have B6 := A5.box.otherRow w3.heap.size (cells (doesM (zr c) k rd rs1 rs2 imm)) (by omega)
        have R6 := A5.res.otherRow w3.heap.size (cells (doesM (zr c) k rd rs1 rs2 imm)) (by omega)
        have lo6 : Below w.heap.size w ((w3.alloc (.cells (cells nought) 25)).setRow w3.heap.size (cells (doesM (zr c) k rd rs1 rs2 imm))) := below_row A5.low (by omega) _
        have M6 := hm.low lo6 hl hl'
        obtain ⟨x0, x1, x2, x3, x4, x5⟩ := I6
        clear I4 A5 A4
        go_wp2_with (first
          | (refine wpList_load_row rfl 25 _ rfl w.heap.size rfl _ _ _ _ B6 Try.underlying25 rfl (infoCs _) ?_)
          | (refine wpList_store_row rfl 25 _ _ rfl w3.heap.size _ rfl rfl _ _ N5 (infoCs _) (cells_same _ _) (cells_one _) ?_))
        refine (notPlain_any (zr c) k rd rs1 rs2 imm hr hp _ M6).mono ?_
        rintro e w4 ⟨rfl, hm4, hg4⟩
        have r4 : BoxC w4 (w.heap.size + 1) nought := Box.grown R6 hg4 (by omega)
        have l4 := below_then lo6 hg4
        clear hg4 x0 x1 x2 x3 x4 x5 B6 R6 N5 M6 hp hr
        go_wp2_with (first
          | (refine wpList_store_row rfl 25 _ _ rfl (w.heap.size + 1) _ rfl rfl _ _ r4 (infoCs _) (cells_same _ _) (cells_one _) ?_))
        rw [HO.out]
        have l5 : ∀ cs, Below w.heap.size w4 (w4.setRow (w.heap.size + 1) cs) := fun cs => below_row (Below.refl _ _) (by omega) _
        exact bodyPost_ret (results_row_tmp (p := 4) (u := 5) (by kernel_rfl) _ _ (w.heap.size + 1) _ _ _ _ rfl (r4.setRow _) Try.underlying25 rfl (infoCs _)) rfl
          ⟨rfl, hm4.low (l5 _) hl hl', grown_then l4 (l5 _)⟩
  · have ht : ((c.pc.toNat : Int) % 4 != 0) = true := by simpa using h4
    have HS : Hid (stepM c l = ⟨zr c, 4, l⟩) := by
      show stepM c l = _
      unfold stepM; rw [if_pos h4]
    go_enter Try.func16, Try.ntmps16
    go_wp2_with (first
      | (refine wpList_load_row rfl 25 _ rfl w.heap.size rfl _ _ _ _ A0.box Try.underlying25 rfl (infoCs _) ?_)
      | (refine wpList_store_row rfl 25 _ _ rfl (w.heap.size + 1) _ rfl rfl _ _ A0.res (infoCs _) (cells_same _ _) (cells_one _) ?_))
    rw [HS.out]
    have lo := below_row A0.low (by omega : w.heap.size ≤ w.heap.size + 1) (cells (zr c))
    exact bodyPost_ret (results_row_tmp (p := 4) (u := 5) (by kernel_rfl) _ _ (w.heap.size + 1) _ _ _ _ rfl (A0.res.setRow _) Try.underlying25 rfl (infoCs _)) rfl
      ⟨rfl, hm.below lo, grown_of_below lo⟩
end Go.Proofs.Ytilphdfobflbiaa
