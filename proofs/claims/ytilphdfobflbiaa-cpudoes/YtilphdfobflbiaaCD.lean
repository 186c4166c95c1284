/-
  Does: what it answers, of any machine and any instruction.
-/
import Derived.Test.YtilphdfobflbiaaCC
import Derived.Laws.ResultCell
namespace Go.Proofs.Ytilphdfobflbiaa
open Go.RowKit Cp Ip

theorem results_row_tmp {P : Program} {fn : Func} {p u : Tmp} {ty : TypeId} (h : fn.results = #[.cell p ty, .tmp u]) (tmps : Array Value) (w : World) (g : Nat) (t : TypeId) (cs : Array Value) (fr : Nat × Nat) (d : TypeDesc)
    (hp : tmps.getD p undef = .pointer (some ⟨g, 0, none⟩)) (hg : w.heap[g]? = some (.cells cs t fr))
    (hu : P.underlying ty = some d) (hd : (match d with | .struct _ | .array _ _ => true | _ => false) = true) (hi : (P.info? ty).map (·.size) = some cs.size) :
    (results fn tmps).run P w = .ok (.tuple #[.agg cs, tmps.getD u undef]) w := by
  have hp' : tmps[p]?.getD undef = .pointer (some ⟨g, 0, none⟩) := by simpa using hp
  simp [results, h, hp', asAddr, run_loadVar_row w g t ty cs fr d hg hu hd hi]

/-- While a function that takes a machine and an instruction is at work: their boxes, and that of its answer. -/
structure DoesAt (w : World) (c r : Mach) (op rd rs1 rs2 imm : Int) (W : World) : Prop where
  box : BoxC W w.heap.size c
  ins : InsAt W (w.heap.size + 1) op rd rs1 rs2 imm
  res : BoxC W (w.heap.size + 2) r
  low : Below w.heap.size w W
theorem DoesAt.below {w W W' : World} {c r : Mach} {op rd rs1 rs2 imm : Int} (h : DoesAt w c r op rd rs1 rs2 imm W) (hb : Below W.heap.size W W') : DoesAt w c r op rd rs1 rs2 imm W' :=
  ⟨h.box.below hb, h.ins.below hb, h.res.below hb, h.low.trans (hb.mono h.low.size)⟩
theorem insAt_other {w : World} {g : Nat} {op rd rs1 rs2 imm : Int} (h : InsAt w g op rd rs1 rs2 imm) (a : Addr) (v : Value) (hn : g ≠ a.block) : InsAt (w.setCell a v) g op rd rs1 rs2 imm := by
  have q : ∀ o, (w.setCell a v).cell? ⟨g, o, none⟩ = w.cell? ⟨g, o, none⟩ := fun o => by
    unfold World.cell?; rw [heap_setCell_other w a g v hn]
  exact ⟨(q _).trans h.c0, (q _).trans h.c1, (q _).trans h.c2, (q _).trans h.c3, (q _).trans h.c4, by simpa using h.lt⟩
theorem insAt_alloc {w : World} {g : Nat} {op rd rs1 rs2 imm : Int} (h : InsAt w g op rd rs1 rs2 imm) (o : Obj) : InsAt (w.alloc o) g op rd rs1 rs2 imm :=
  h.below ((Below.refl _ _).alloc (Nat.le_refl _) _)
theorem doesAt_start (w : World) (c : Mach) (op rd rs1 rs2 imm : Int) :
    DoesAt w c nought op rd rs1 rs2 imm (((w.alloc (.cells (cells c) 25)).alloc (.cells #[.int .i64 op, .int .i64 rd, .int .i64 rs1, .int .i64 rs2, .int .i64 imm] 27)).alloc (.cells (cells nought) 25)) := by
  have i := InsAt.new (w.alloc (.cells (cells c) 25)) op rd rs1 rs2 imm 27
  have r := Box.new (t := 25) ((w.alloc (.cells (cells c) 25)).alloc (.cells #[.int .i64 op, .int .i64 rd, .int .i64 rs1, .int .i64 rs2, .int .i64 imm] 27)) nought
  simp only [World.size_alloc] at i r
  exact ⟨((Box.new w c).alloc _).alloc _, insAt_alloc i _, r, (((Below.refl _ _).alloc (Nat.le_refl _) _).alloc (by simp) _).alloc (by simp; omega) _⟩
theorem cells_zr (c : Mach) : (cells c).setIfInBounds 0 (.int .u32 0) = cells (zr c) := cells_sx c 0 (by omega) (BitVec.ofNat 32 0)

def doesB (op rd rs1 rs2 imm : Int) : Bool := right op rd rs1 rs2 imm && isPlain op
def doesM (c : Mach) (op rd rs1 rs2 imm : Int) : Mach := if doesB op rd rs1 rs2 imm = true then onw (zr c) rd (reckV (zr c) op rs1 rs2 imm) else zr c

set_option maxHeartbeats 2000000 in
theorem does_any4 (c : Mach) (op rd rs1 rs2 imm : Int) (w : World) :
    Calls Try.prog 7 #[.agg (cells c), .agg #[.int .i64 op, .int .i64 rd, .int .i64 rs1, .int .i64 rs2, .int .i64 imm]] w fun e w' => e = .returned (.tuple #[.agg (cells (doesM c op rd rs1 rs2 imm)), .bool (doesB op rd rs1 rs2 imm)]) ∧ Below w.heap.size w w' := by
  have hz := zeroC
  have hc0 : ((cells c)[0]?) = some (.int .u32 ((c.x 0).toNat : Int)) := cells_x c 0 (by omega)
  have hcs := cells_size c
  have hcz := cells_zr c
  go_enter Try.func7, Try.ntmps7
  go_wp2_with fail
  refine (right_any op rd rs1 rs2 imm _).mono ?_
  rintro e w1 ⟨rfl, hb1⟩
  have D1 := (doesAt_start w (zr c) op rd rs1 rs2 imm).below hb1
  clear hb1 hc0 hcs hcz
  obtain ⟨x0, x1, x2, x3, x4, x5⟩ := D1.ins
  cases hr : right op rd rs1 rs2 imm with
  | false =>
    have HM : Hid (doesM c op rd rs1 rs2 imm = zr c) := by show doesM c op rd rs1 rs2 imm = zr c; unfold doesM doesB; rw [hr]; rfl
    have HB : Hid (doesB op rd rs1 rs2 imm = false) := by show doesB op rd rs1 rs2 imm = false; unfold doesB; rw [hr]; rfl
    clear hr
    go_wp2_with (first
      | (refine wpList_load_row rfl 25 _ rfl w.heap.size rfl _ _ _ _ D1.box Try.underlying25 rfl (infoCs _) ?_)
      | (refine wpList_store_row rfl 25 _ _ rfl (w.heap.size + 2) _ rfl rfl _ _ D1.res (infoCs _) (cells_same _ _) (cells_one _) ?_))
    rw [HM.out, HB.out]
    exact bodyPost_ret (v := .tuple #[.agg (cells (zr c)), .bool false]) (results_row_tmp (p := 4) (u := 5) (by kernel_rfl) _ _ (w.heap.size + 2) _ _ _ _ rfl (D1.res.setRow _) Try.underlying25 rfl (infoCs _)) rfl
      ⟨rfl, below_row D1.low (by omega) _⟩
  | true =>
    have eB : doesB op rd rs1 rs2 imm = isPlain op := by unfold doesB; rw [hr]; rfl
    go_wp2_with fail
    refine (reck_any op rd rs1 rs2 imm hr _ D1.box).mono ?_
    rintro e w2 ⟨rfl, hb2⟩
    have D2 := D1.below hb2
    clear x0 x1 x2 x3 x4 x5 hb2
    obtain ⟨x0, x1, x2, x3, x4, x5⟩ := D2.ins
    cases hp : isPlain op with
    | false =>
      have HM : Hid (doesM c op rd rs1 rs2 imm = zr c) := by show doesM c op rd rs1 rs2 imm = zr c; unfold doesM; rw [eB, hp]; rfl
      have HB : Hid (doesB op rd rs1 rs2 imm = false) := by show doesB op rd rs1 rs2 imm = false; rw [eB, hp]
      clear eB hr hp
      go_wp2_with (first
        | (refine wpList_load_row rfl 25 _ rfl w.heap.size rfl _ _ _ _ D2.box Try.underlying25 rfl (infoCs _) ?_)
        | (refine wpList_store_row rfl 25 _ _ rfl (w.heap.size + 2) _ rfl rfl _ _ D2.res (infoCs _) (cells_same _ _) (cells_one _) ?_))
      rw [HM.out, HB.out]
      exact bodyPost_ret (v := .tuple #[.agg (cells (zr c)), .bool false]) (results_row_tmp (p := 4) (u := 5) (by kernel_rfl) _ _ (w.heap.size + 2) _ _ _ _ rfl (D2.res.setRow _) Try.underlying25 rfl (infoCs _)) rfl
        ⟨rfl, below_row D2.low (by omega) _⟩
    | true =>
      have hf := fine_of hr
      have HM : Hid (doesM c op rd rs1 rs2 imm = onw (zr c) rd (reckW (zr c) op rs1 rs2 imm)) := by
        show doesM c op rd rs1 rs2 imm = _
        unfold doesM reckW; rw [eB, hp]; rfl
      have HB : Hid (doesB op rd rs1 rs2 imm = true) := by show _ = true; rw [eB, hp]
      clear eB hr hp
      go_wp2_with (first
        | (refine wpList_load_row rfl 25 _ rfl w.heap.size rfl _ _ _ _ D2.box Try.underlying25 rfl (infoCs _) ?_))
      refine (onward_any (zr c) rd hf.rd0 hf.rd1 _ _).mono ?_
      rintro e w3 ⟨rfl, hb3⟩
      have D3 := D2.below hb3
      clear x0 x1 x2 x3 x4 x5 hb3
      go_wp2_with (first
        | (refine wpList_store_row rfl 25 _ _ rfl (w.heap.size + 2) _ rfl rfl _ _ D3.res (infoCs _) (cells_same _ _) (cells_one _) ?_))
      rw [HM.out, HB.out]
      exact bodyPost_ret (results_row_tmp (p := 4) (u := 5) (by kernel_rfl) _ _ (w.heap.size + 2) _ _ _ _ rfl (D3.res.setRow _) Try.underlying25 rfl (infoCs _)) rfl
        ⟨rfl, below_row D3.low (by omega) _⟩
end Go.Proofs.Ytilphdfobflbiaa
