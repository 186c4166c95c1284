/-
  Among a law's arguments of layer 10: a script, a call, thirty-two registers: opened, and in memory.
  Layer 10: the code's terms and the document's, side by side; contract of the law's does.
-/
import Derived.Test.YthlefedljgmmfaaRows
import Derived.WalkKit
import Derived.ProofKit
import Derived.OpenShut
import Derived.Below
import Derived.Deep.Slices
import Derived.ChangeSame
import Derived.ChangeMaps
import Derived.Test.YthlefedljgmmfaaZW3
namespace Go.Proofs.Ythlefedljgmmfaa
open Go.ChangeShapes Go.WideShapes Go.ChangeAt Go.RowKit Go.Deep Go.Lib Tm
set_option linter.unusedSimpArgs false
set_option linter.unusedVariables false

def opcC (o : Opc) : List Value := [.int .i64 o.kind, .int .u32 (o.v.toNat : Int), .int .i64 o.op, .int .i64 o.a, .int .i64 o.b]
def opcV (o : Opc) : Value := .agg #[.int .i64 o.kind, .int .u32 (o.v.toNat : Int), .int .i64 o.op, .int .i64 o.a, .int .i64 o.b]
def opcsC (l : List Opc) : List Value := l.flatMap opcC
def In64 (a : Int) : Prop := -9223372036854775808 ≤ a ∧ a ≤ 9223372036854775807
def OkO (o : Opc) : Prop := In64 o.kind ∧ In64 o.op ∧ In64 o.a ∧ In64 o.b
theorem opcsC_cons (t : Opc) (L : List Opc) : opcsC (t :: L) = opcC t ++ opcsC L := rfl
theorem opcC_len (t : Opc) : (opcC t).length = 5 := rfl
theorem opcsC_get (L : List Opc) {k j : Nat} {t : Opc} (h : L[k]? = some t) (hj : j < 5) : (opcsC L)[k * 5 + j]? = (opcC t)[j]? := by
  induction L generalizing k with
  | nil => simp at h
  | cons a L ih =>
    rw [opcsC_cons]
    cases k with
    | zero =>
      simp at h; subst h
      rw [Nat.zero_mul, Nat.zero_add, List.getElem?_append_left (by rw [opcC_len]; exact hj)]
    | succ k =>
      rw [List.getElem?_append_right (by rw [opcC_len]; omega), opcC_len, show (k + 1) * 5 + j - 5 = k * 5 + j by omega]
      exact ih (by simpa using h)
/-- A slice of calls. -/
def SlO (W : World) (v : Value) (l : List Opc) : Prop :=
  (∃ p c, v = .slice p 0 c ∧ l = []) ∨ ∃ g o cap, v = .slice (some ⟨g, o, none⟩) l.length cap ∧ g < W.heap.size ∧ ∀ j, j < l.length * 5 → W.cell? ⟨g, o + j, none⟩ = (opcsC l)[j]?
theorem SlO.below {W W' : World} {v : Value} {l : List Opc} (h : SlO W v l) (hb : Below W.heap.size W W') : SlO W' v l := by
  rcases h with h | ⟨g, o, cap, rfl, hg, hc⟩
  · exact .inl h
  · exact .inr ⟨g, o, cap, rfl, Nat.lt_of_lt_of_le hg hb.size, fun j hj => by rw [(bcell hb).1 _ _ hg]; exact hc j hj⟩
theorem SlO.five {W : World} {p : Option Addr} {n c : Nat} {l : List Opc} (h : SlO W (.slice p n c) l) {i : Nat} {x : Opc} (hx : l[i]? = some x) : ∃ g o, p = some ⟨g, o, none⟩ ∧
    W.cell? ⟨g, o + i * 5, none⟩ = some (.int .i64 x.kind) ∧ W.cell? ⟨g, o + i * 5 + 1, none⟩ = some (.int .u32 (x.v.toNat : Int)) ∧ W.cell? ⟨g, o + i * 5 + 2, none⟩ = some (.int .i64 x.op) ∧ W.cell? ⟨g, o + i * 5 + 3, none⟩ = some (.int .i64 x.a) ∧ W.cell? ⟨g, o + i * 5 + 4, none⟩ = some (.int .i64 x.b) := by
  rcases h with ⟨_, _, _, rfl⟩ | ⟨g, o, cap, e, hg, hc⟩
  · simp at hx
  · injection e with e1 e2 e3
    have hi : i < l.length := (List.getElem?_eq_some_iff.1 hx).1
    have q : ∀ j, j < 5 → W.cell? ⟨g, o + i * 5 + j, none⟩ = (opcC x)[j]? := fun j hj => by
      rw [Nat.add_assoc, hc _ (by omega), opcsC_get l hx hj]
    exact ⟨g, o, e1, q 0 (by decide), q 1 (by decide), q 2 (by decide), q 3 (by decide), q 4 (by decide)⟩
theorem cellsTX : Try.prog.cellsOf 51 = 5 := by kernel_rfl
theorem cellsTI : Try.prog.cellsOf 3 = 1 := by kernel_rfl
theorem cellsTU : Try.prog.cellsOf 31 = 1 := by kernel_rfl
theorem cellsTA : Try.prog.cellsOf 39 = 32 := by kernel_rfl
theorem listT5 {α : Type} {cs : List α} (h : cs.length = 5) : ∃ c0 c1 c2 c3 c4, cs = [c0, c1, c2, c3, c4] := by
  match cs, h with
  | [c0, c1, c2, c3, c4], _ => exact ⟨c0, c1, c2, c3, c4, rfl⟩
theorem cellT_spot {w : World} {a : Addr} {v : Value} (h : w.cell? a = some v) : a.spot = none := by
  unfold World.cell? at h
  split at h
  · split at h
    · cases h
    · rename_i hs; simpa using hs
  · cases h
section
variable {H : Type} {enc : TypeId × Value → H} {w : World} {base : Nat} {spare : Nat → Bool} {held : Bool}
theorem open_opL {fuel : Nat} {cs : List Value} {x : DataW H × List MemPlace} (h : DataW.trod enc Try.prog w base spare held fuel 51 cs = some x) :
    ∃ r : Opc, cs = opcC r ∧ OkO r := by
  obtain ⟨xs, n, _, hx, hl, hlen, hg⟩ := DataW.trod_struct Try.underlying51 h
  obtain ⟨c0, c1, c2, c3, c4, rfl⟩ := listT5 (hl.trans cellsTX)
  have h0 := hg 0 _ rfl
  have h1 := hg 1 _ rfl
  have h2 := hg 2 _ rfl
  have h3 := hg 3 _ rfl
  have h4 := hg 4 _ rfl
  match xs, hlen with
  | [y0, y1, y2, y3, y4], _ =>
    simp [cellsTI, cellsTU] at h0 h1 h2 h3 h4
    obtain ⟨a0, e0, rfl, w0⟩ := DataW.trod_int Try.underlying3 h0
    obtain ⟨a1, e1, rfl, w1⟩ := DataW.trod_int Try.underlying31 h1
    obtain ⟨a2, e2, rfl, w2⟩ := DataW.trod_int Try.underlying3 h2
    obtain ⟨a3, e3, rfl, w3⟩ := DataW.trod_int Try.underlying3 h3
    obtain ⟨a4, e4, rfl, w4⟩ := DataW.trod_int Try.underlying3 h4
    simp at e0 e1 e2 e3 e4
    subst e0 e1 e2 e3 e4
    obtain ⟨X, rfl⟩ := u32_of a1 w1
    exact ⟨⟨a0, X, a2, a3, a4⟩, rfl, bounds_i64 w0, bounds_i64 w2, bounds_i64 w3, bounds_i64 w4⟩
set_option maxRecDepth 100000 in
theorem open_op {r : Reach} {b0 : Nat} {v : Value} {d : DataW H} {p : List MemPlace} (hv : Value.okWide Try.prog w r b0 51 v) (h : DataW.Trod enc Try.prog w base spare held 51 v d p) : ∃ o : Opc, v = opcV o ∧ OkO o := by
  obtain ⟨cs, rfl, hsz⟩ := okWide_struct Try.underlying51 hv
  obtain ⟨fuel, hf⟩ := h
  obtain ⟨c, hc, hk⟩ := open_opL hf
  refine ⟨c, ?_, hk⟩
  have : cs.toList = (opcC c).toArray.toList := hc
  rw [Array.toList_inj.1 this]; rfl
theorem takeT_one {α : Type} {cs : List α} {i : Nat} {a : α} (h : (cs.drop i).take 1 = [a]) : cs[i]? = some a := by
  have : ((cs.drop i).take 1)[0]? = some a := by rw [h]; rfl
  rw [List.getElem?_take_of_lt (by omega), List.getElem?_drop] at this
  simpa using this
theorem okT_array {P : Program} {w : World} {r : Reach} {b0 : Nat} {t e : TypeId} {n : Nat} {v : Value} (ht : P.underlying t = some (.array n e)) (h : Value.okWide P w r b0 t v) : ∃ cs, v = .agg cs ∧ cs.size = P.cellsOf t := by
  simp only [Value.okWide, ht] at h
  obtain ⟨cs, h1, h2, _⟩ := h
  exact ⟨cs, h1, h2⟩
set_option maxRecDepth 100000 in
theorem open_regs {r : Reach} {b0 : Nat} {v : Value} {d : DataW H} {p : List MemPlace} (hv : Value.okWide Try.prog w r b0 39 v) (h : DataW.Trod enc Try.prog w base spare held 39 v d p) : ∃ x : Nat → BitVec 32, v = .agg (regsC x) := by
  obtain ⟨cs, rfl, hsz⟩ := okT_array Try.underlying39 hv
  obtain ⟨fuel, hf⟩ := h
  obtain ⟨ys, m, _, _, hla, hn, he⟩ := DataW.trod_array Try.underlying39 hf
  have each : ∀ i, i < 32 → ∃ a : BitVec 32, cs.toList[i]? = some (.int .u32 (a.toNat : Int)) := by
    intro i hi
    have hy := he i hi
    rw [cellsTU, Nat.mul_one] at hy
    obtain ⟨z, hz⟩ : ∃ z, ys[i]? = some z := ⟨_, List.getElem?_eq_getElem (by omega)⟩
    rw [hz] at hy
    obtain ⟨a, e, _, hw⟩ := DataW.trod_int Try.underlying31 hy
    obtain ⟨X, rfl⟩ := u32_of a hw
    exact ⟨X, takeT_one e⟩
  obtain ⟨f, hf2⟩ := Go.Deep.choose_lt each
  refine ⟨f, ?_⟩
  have : cs = regsC f := by
    apply Array.ext_getElem?
    intro i
    by_cases hi : i < 32
    · rw [← Array.getElem?_toList, hf2 i hi, regs_get f hi]
    · rw [Array.getElem?_eq_none (by rw [← Array.length_toList]; exact Nat.le_trans (Nat.le_of_eq (hla.trans cellsTA)) (by omega)), Array.getElem?_eq_none (by rw [regs_size]; omega)]
  rw [this]
end
section
variable {H : Type} {enc : TypeId × Value → H}
theorem opcsC_flat (ops : Nat → Opc) (n j : Nat) (hj : j < n * 5) : (opcsC ((List.range n).map ops))[j]? = (opcC (ops (j / 5)))[j % 5]? := by
  have hx : ((List.range n).map ops)[j / 5]? = some (ops (j / 5)) := by rw [List.getElem?_map, List.getElem?_range (by omega)]; rfl
  rw [← opcsC_get _ hx (Nat.mod_lt _ (by decide)), show j / 5 * 5 + j % 5 = j by omega]
set_option maxRecDepth 100000 in
/-- A slice of calls, opened. -/
theorem open_ops {W : World} {x : Value} {d : DataW H} {p : List MemPlace} (hv : Value.okWide Try.prog W .any 0 22 x) (h : DataW.Trod enc Try.prog W 0 (fun _ => true) true 22 x d p) :
    ∃ (p : Option Addr) (c : Nat) (l : List Opc), x = .slice p l.length c ∧ SlO W x l ∧ (∀ o ∈ l, OkO o) ∧ l.length ≤ 9223372036854775807 := by
  obtain ⟨a0, l0, p0, rfl⟩ := okWide_slice Try.underlying22 hv
  obtain ⟨fuel, hf⟩ := h
  rcases open_slice Try.underlying22 hf with ⟨h0, _⟩ | ⟨a, len, cap, m, n, D, Pl, h0, hb, hl, hm, hmm, _, hx⟩
  · simp [Value.cells] at h0
    obtain ⟨rfl, rfl, rfl⟩ := h0
    exact ⟨none, 0, [], rfl, .inl ⟨_, _, rfl, rfl⟩, (fun o ho => absurd ho List.not_mem_nil), (by decide)⟩
  · simp [Value.cells] at h0
    obtain ⟨rfl, rfl, rfl⟩ := h0
    simp only [if_true] at hmm
    subst hmm
    have each : ∀ i, i < l0 → ∃ r : Opc, OkO r ∧ ∀ j, j < 5 → W.cell? ((a.add (i * 5)).add j) = (opcC r)[j]? := by
      intro i hi
      obtain ⟨cs', h1, h2⟩ := hx i (by omega)
      rw [cellsTX] at h1
      obtain ⟨_, hlen, hcell⟩ := World.cells?_some h1
      obtain ⟨r, rfl, hk⟩ := open_opL h2
      exact ⟨r, hk, hcell⟩
    haveI : Inhabited Opc := ⟨⟨0, 0, 0, 0, 0⟩⟩
    obtain ⟨ops, hops⟩ := choose_lt each
    refine ⟨some a, m, (List.range l0).map ops, by simp, ?_, ?_, by simp; unfold maxLen at hm; omega⟩
    · by_cases hz : l0 = 0
      · subst hz; exact .inl ⟨_, _, rfl, rfl⟩
      · have c0 := (hops 0 (by omega)).2 0 (by omega)
        have hsp : a.spot = none := cellT_spot (w := W) (a := a) c0
        have hlt : a.block < W.heap.size := ltE (w := W) (a := a) c0
        obtain ⟨b, o, s⟩ := a
        simp only at hsp hlt
        subst hsp
        refine .inr ⟨b, o, m, by simp, hlt, fun j hj => ?_⟩
        simp only [List.length_map, List.length_range] at hj
        rw [opcsC_flat ops l0 j hj, ← (hops (j / 5) (by omega)).2 (j % 5) (by omega), addE _ _ _ rfl]
        show W.cell? ⟨b, o + j, none⟩ = W.cell? ⟨b, o + j / 5 * 5 + j % 5, none⟩
        rw [show o + j / 5 * 5 + j % 5 = o + j by omega]
    · intro y hy
      obtain ⟨i, hi, rfl⟩ := List.mem_map.1 hy
      exact (hops i (List.mem_range.1 hi)).1
end
end Go.Proofs.Ythlefedljgmmfaa
namespace Go.Proofs.Ythlefedljgmmfaa
open Go.RowKit Go.Lib Tm
set_option linter.unusedSimpArgs false
set_option linter.unusedVariables false

/-- The two, apart, over a world from which all grew. -/
structure Pr (Dag : World → Nat → List Trm → (Nat → Prop) → Prop) (w : World) (g : Nat) (L : List Trm) (fp : Nat → Prop) (g2 : Nat) (L2 : List Trm) (fp2 : Nat → Prop) (W : World) : Prop where
  d : Dag W g L fp
  k : RDag W g2 L2 fp2
  apart : ∀ j, fp j → ¬ fp2 j
  lo : ∀ j, fp j → w.heap.size ≤ j
  lo2 : ∀ j, fp2 j → w.heap.size ≤ j
  low : Below w.heap.size w W
theorem Chg.below {fp fp' : Nat → Prop} {W W' : World} {B : Nat} (h : Chg fp fp' W W') (hB : B ≤ W.heap.size) (hlo : ∀ j, fp j → B ≤ j) : Below B W W' :=
  ⟨h.os, h.tape, h.output, h.size, fun k hk => h.block k (Nat.lt_of_lt_of_le hk hB) (fun c => Nat.lt_irrefl _ (Nat.lt_of_lt_of_le hk (hlo k c)))⟩
section
variable {Dag : World → Nat → List Trm → (Nat → Prop) → Prop} {w W W' : World} {g g2 : Nat} {L L' L2 L2' : List Trm} {fp fp' fp2 fp2' : Nat → Prop}
theorem Pr.left (HT : TmAll Dag) (h : Pr Dag w g L fp g2 L2 fp2 W) (hd : Dag W' g L' fp') (hc : Chg fp fp' W W') : Pr Dag w g L' fp' g2 L2 fp2 W' where
  d := hd
  k := h.k.keep hc.size (fun k hk => hc.block k (h.k.lt k hk) (fun c => h.apart k c hk))
  apart := fun j hj hj2 => (hc.grow j hj).elim (fun c => h.apart j c hj2) (fun c => by have := h.k.lt j hj2; omega)
  lo := fun j hj => (hc.grow j hj).elim (h.lo j) (fun c => Nat.le_trans h.low.size c)
  lo2 := h.lo2
  low := h.low.trans (hc.below h.low.size h.lo)
theorem Pr.right (HT : TmAll Dag) (h : Pr Dag w g L fp g2 L2 fp2 W) (hd : RDag W' g2 L2' fp2') (hc : Chg fp2 fp2' W W') : Pr Dag w g L fp g2 L2' fp2' W' where
  d := HT.keep h.d hc.size (fun k hk => hc.block k (HT.lt h.d k hk) (h.apart k hk))
  k := hd
  apart := fun j hj hj2 => (hc.grow j hj2).elim (fun c => h.apart j hj c) (fun c => by have := HT.lt h.d j hj; omega)
  lo := h.lo
  lo2 := fun j hj => (hc.grow j hj).elim (h.lo2 j) (fun c => Nat.le_trans h.low.size c)
  low := h.low.trans (hc.below h.low.size h.lo2)
theorem Pr.below (HT : TmAll Dag) (h : Pr Dag w g L fp g2 L2 fp2 W) (hb : Below W.heap.size W W') : Pr Dag w g L fp g2 L2 fp2 W' where
  d := HT.keep h.d hb.size (fun k hk => hb.block k (HT.lt h.d k hk))
  k := h.k.ext hb
  apart := h.apart
  lo := h.lo
  lo2 := h.lo2
  low := h.low.trans (hb.mono h.low.size)
theorem Pr.size (h : Pr Dag w g L fp g2 L2 fp2 W) : w.heap.size ≤ W.heap.size := h.low.size
/-- A block that is neither's. -/
theorem Pr.free (HT : TmAll Dag) (h : Pr Dag w g L fp g2 L2 fp2 W) {b : Nat} (hb : W.heap.size ≤ b) : ¬ fp b ∧ ¬ fp2 b :=
  ⟨fun c => by have := HT.lt h.d b c; omega, fun c => by have := h.k.lt b c; omega⟩
end
theorem obox (W : World) (a0 a1 a2 a3 a4 : Value) : (W.alloc (.cells #[a0, a1, a2, a3, a4] 51)).heap[W.heap.size]? = some (.cells #[a0, a1, a2, a3, a4] 51 (0, 0)) := heap_alloc_new W _
theorem ocells {W : World} {B : Nat} {a0 a1 a2 a3 a4 : Value} (h : W.heap[B]? = some (.cells #[a0, a1, a2, a3, a4] 51 (0, 0))) :
    W.cell? ⟨B, 0, none⟩ = some a0 ∧ W.cell? ⟨B, 1, none⟩ = some a1 ∧ W.cell? ⟨B, 2, none⟩ = some a2 ∧ W.cell? ⟨B, 3, none⟩ = some a3 ∧ W.cell? ⟨B, 4, none⟩ = some a4 := by
  simp [World.cell?, h]
set_option maxHeartbeats 8000000 in
set_option maxRecDepth 100000 in
theorem does_any10 {Dag : World → Nat → List Trm → (Nat → Prop) → Prop} (HT : TmAll Dag) (o : Opc) (ho : OkO o) {w : World} {g g2 : Nat} {L : List Trm} {fp fp2 : Nat → Prop} (W : World) (hok : OkT L) (hl : L.length ≤ 1000) (h : Pr Dag w g L fp g2 L fp2 W) :
    Calls Try.prog 24 #[.pointer (some ⟨g, 0, none⟩), .pointer (some ⟨g2, 0, none⟩), opcV o] W fun e W' => e = .returned (.bool true) ∧ ∃ fp' fp2', Pr Dag w g (stepL L o) fp' g2 (stepL L o) fp2' W' := by
  obtain ⟨ok, ov, oo, oa, ob⟩ := o
  obtain ⟨hk1, ho1, ha1, hb1⟩ := ho
  have HP := hideE h
  have hb0 := (Below.refl _ W).alloc (Nat.le_refl _) (.cells #[.int .i64 ok, .int .u32 (ov.toNat : Int), .int .i64 oo, .int .i64 oa, .int .i64 ob] 51)
  have hob := obox W (.int .i64 ok) (.int .u32 (ov.toNat : Int)) (.int .i64 oo) (.int .i64 oa) (.int .i64 ob)
  obtain ⟨n1, n2⟩ := h.free HT (Nat.le_refl _)
  have HP0 := hideE (h.below HT hb0)
  obtain ⟨W0, hW0⟩ : ∃ W0, (W.alloc (.cells #[.int .i64 ok, .int .u32 (ov.toNat : Int), .int .i64 oo, .int .i64 oa, .int .i64 ob] 51)) = W0 := ⟨_, rfl⟩
  obtain ⟨B, hB⟩ : ∃ B, W.heap.size = B := ⟨_, rfl⟩
  rw [hW0] at HP0 hob hb0
  rw [hB] at hob n1 n2
  have hlt := (Array.getElem?_eq_some_iff.1 hob).1
  obtain ⟨t0, t1, t2, t3, t4⟩ := ocells hob
  have HOb := hideE hob
  have HLt := hideE hlt
  have HN1 := hideE n1
  simp only [opcV]
  by_cases q0 : ok = 0
  · subst q0
    have hstep : stepL L ⟨0, ov, oo, oa, ob⟩ = addT L (constT ov) := by unfold stepL; rw [if_pos rfl]
    have HS := hideE hstep
    have HC1 : Hid (Calls Try.prog 17 #[.pointer (some ⟨g, 0, none⟩), .int .u32 (ov.toNat : Int)] W0 fun e w' => e = .returned (.int .i64 (findT L (constT ov) : Int)) ∧ ∃ fp', Dag w' g (addT L (constT ov)) fp' ∧ Chg fp fp' W0 w') := HT.const ov hok hl HP0.out.d
    have HC2 : Hid (∀ W1, RDag W1 g2 L fp2 → Calls Try.prog 48 #[.pointer (some ⟨g2, 0, none⟩), .int .u32 (ov.toNat : Int)] W1 fun e w' => e = .returned (.int .i64 (findT L (constT ov) : Int)) ∧ ∃ fp', RDag w' g2 (addT L (constT ov)) fp' ∧ Chg fp2 fp' W1 w') := fun W1 hW1 => rconst_any ov W1 hl hW1
    obtain ⟨z, hz⟩ : ∃ z, findT L (constT ov) = z := ⟨_, rfl⟩
    rw [hz] at HC1 HC2
    clear hstep hok hl h hb0 hob hlt n1 n2 hz
    go_enter Try.func24, Try.ntmps24
    go_wp2_with (first
      | (go_at_call 17; refine HC1.out.mono ?_; rintro e w1 ⟨rfl, fp1, hd1, hc1⟩; have HP1 := hideE (HP0.out.left HT hd1 hc1); obtain ⟨s0, s1, s2, s3, s4⟩ := ocells ((hc1.block B HLt.out HN1.out).trans HOb.out); clear hd1 hc1)
      | (go_at_call 48; refine (HC2.out _ HP1.out.k).mono ?_; rintro e w2 ⟨rfl, fp2b, hd2, hc2⟩; have HP2 := hideE (HP1.out.right HT hd2 hc2); clear hd2 hc2))
    go_ret
    exact ⟨rfl, _, _, by rw [HS.out]; exact HP2.out⟩
  · have q0' : (ok == 0) = false := beq_eq_false_iff_ne.2 q0
    by_cases q1 : ok = 1
    · subst q1
      have hstep : stepL L ⟨1, ov, oo, oa, ob⟩ = regL L oa := by unfold stepL regL; rw [if_neg (show ¬ ((1 : Int) = 0) by decide), if_pos rfl]
      have HS := hideE hstep
      have HC1 : Hid (Calls Try.prog 18 #[.pointer (some ⟨g, 0, none⟩), .int .i64 oa] W0 fun e w' => e = .returned (.tuple #[.int .i64 (regN L oa : Int), .int .i64 (regE oa : Int)]) ∧ ∃ fp', Dag w' g (regL L oa) fp' ∧ Chg fp fp' W0 w') := HT.var oa ha1 hok hl HP0.out.d
      have HC2 : Hid (∀ W1, RDag W1 g2 L fp2 → Calls Try.prog 49 #[.pointer (some ⟨g2, 0, none⟩), .int .i64 oa] W1 fun e w' => e = .returned (.tuple #[.int .i64 (regN L oa : Int), .int .i64 (regE oa : Int)]) ∧ ∃ fp', RDag w' g2 (regL L oa) fp' ∧ Chg fp2 fp' W1 w') := fun W1 hW1 => rvar_any oa ha1 W1 hl hW1
      obtain ⟨z, hz⟩ : ∃ z, regN L oa = z := ⟨_, rfl⟩
      obtain ⟨y, hy⟩ : ∃ z, regE oa = z := ⟨_, rfl⟩
      rw [hz, hy] at HC1 HC2
      clear hstep hok hl h hb0 hob hlt n1 n2 hz hy q0
      go_enter Try.func24, Try.ntmps24
      go_wp2_with (first
        | (go_at_call 18; refine HC1.out.mono ?_; rintro e w1 ⟨rfl, fp1, hd1, hc1⟩; have HP1 := hideE (HP0.out.left HT hd1 hc1); obtain ⟨s0, s1, s2, s3, s4⟩ := ocells ((hc1.block B HLt.out HN1.out).trans HOb.out); clear hd1 hc1)
        | (go_at_call 49; refine (HC2.out _ HP1.out.k).mono ?_; rintro e w2 ⟨rfl, fp2b, hd2, hc2⟩; have HP2 := hideE (HP1.out.right HT hd2 hc2); clear hd2 hc2))
      go_ret
      exact ⟨rfl, _, _, by rw [HS.out]; exact HP2.out⟩
    · have q1' : (ok == 1) = false := beq_eq_false_iff_ne.2 q1
      by_cases q2 : ok = 2
      · subst q2
        have hstep : stepL L ⟨2, ov, oo, oa, ob⟩ = opL L oo oa ob := by unfold stepL opL; rw [if_neg (show ¬ ((2 : Int) = 0) by decide), if_neg (show ¬ ((2 : Int) = 1) by decide), if_pos rfl]
        have HS := hideE hstep
        have HC1 : Hid (Calls Try.prog 19 #[.pointer (some ⟨g, 0, none⟩), .int .i64 oo, .int .i64 oa, .int .i64 ob] W0 fun e w' => e = .returned (.tuple #[.int .i64 (opN L oo oa ob : Int), .int .i64 (opE L oo oa ob : Int)]) ∧ ∃ fp', Dag w' g (opL L oo oa ob) fp' ∧ Chg fp fp' W0 w') := HT.op oo oa ob ho1 ha1 hb1 hok hl HP0.out.d
        have HC2 : Hid (∀ W1, RDag W1 g2 L fp2 → Calls Try.prog 50 #[.pointer (some ⟨g2, 0, none⟩), .int .i64 oo, .int .i64 oa, .int .i64 ob] W1 fun e w' => e = .returned (.tuple #[.int .i64 (opN L oo oa ob : Int), .int .i64 (opE L oo oa ob : Int)]) ∧ ∃ fp', RDag w' g2 (opL L oo oa ob) fp' ∧ Chg fp2 fp' W1 w') := fun W1 hW1 => rop_any oo oa ob W1 hl hW1
        obtain ⟨z, hz⟩ : ∃ z, opN L oo oa ob = z := ⟨_, rfl⟩
        obtain ⟨y, hy⟩ : ∃ z, opE L oo oa ob = z := ⟨_, rfl⟩
        rw [hz, hy] at HC1 HC2
        clear hstep hok hl h hb0 hob hlt n1 n2 hz hy q0 q1
        go_enter Try.func24, Try.ntmps24
        go_wp2_with (first
          | (go_at_call 19; refine HC1.out.mono ?_; rintro e w1 ⟨rfl, fp1, hd1, hc1⟩; have HP1 := hideE (HP0.out.left HT hd1 hc1); obtain ⟨s0, s1, s2, s3, s4⟩ := ocells ((hc1.block B HLt.out HN1.out).trans HOb.out); clear hd1 hc1)
          | (go_at_call 50; refine (HC2.out _ HP1.out.k).mono ?_; rintro e w2 ⟨rfl, fp2b, hd2, hc2⟩; have HP2 := hideE (HP1.out.right HT hd2 hc2); clear hd2 hc2))
        go_ret
        exact ⟨rfl, _, _, by rw [HS.out]; exact HP2.out⟩
      · have q2' : (ok == 2) = false := beq_eq_false_iff_ne.2 q2
        have hstep : stepL L ⟨ok, ov, oo, oa, ob⟩ = L := by unfold stepL; rw [if_neg q0, if_neg q1, if_neg q2]
        have HS := hideE hstep
        clear hstep hok hl h hb0 hob hlt n1 n2 q0 q1 q2
        go_enter Try.func24, Try.ntmps24
        go_wp2_with fail
        go_ret
        exact ⟨rfl, _, _, by rw [HS.out]; exact HP0.out⟩
end Go.Proofs.Ythlefedljgmmfaa
