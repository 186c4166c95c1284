/-
  Contract of the document's layer 10: Vars.
  Contracts of the document's layer 10: values, Eval.
-/
import Derived.Deep.RegionHeld3
import Derived.Test.YthlefedljgmmfabZW2
namespace Go.Proofs.Ythlefedljgmmfab
open Go.RowKit Go.Lib Tm
set_option linter.unusedSimpArgs false
set_option linter.unusedVariables false

variable {g : Nat} {L : List Trm} {fp : Nat → Prop}
def wdV (x : BitVec 32) : Value := .int .u32 (x.toNat : Int)
def wdsC (l : List (BitVec 32)) : List Value := l.map wdV
theorem infoTw : (Try.prog.info? 23).map (fun i => (i.zero, i.size, i.bytes)) = some (some (.int .u32 0), 1, 4) := by kernel_rfl
theorem wds_snoc {l : List (BitVec 32)} {k : Nat} {x : BitVec 32} (h : l[k]? = some x) : wdsC (l.take (k + 1)) = wdsC (l.take k) ++ [.int .u32 (x.toNat : Int)] := by
  unfold wdsC
  rw [List.take_add_one, h, Option.toList_some, List.map_append]; rfl
theorem wds_get {l : List (BitVec 32)} {k a : Nat} {x : BitVec 32} (h : l[a]? = some x) (ha : a < k) : (wdsC (l.take k))[a]? = some (.int .u32 (x.toNat : Int)) := by
  unfold wdsC
  rw [List.getElem?_map, List.getElem?_take_of_lt ha, h]; rfl
theorem need_get {L : List Trm} {n : Nat} (h : n < L.length) : (needsL L)[n]? = some (needN L n) := by
  unfold needN
  rw [List.getD_eq_getElem?_getD, List.getElem?_eq_getElem (by rw [needs_len]; exact h)]; rfl
theorem val_get (x : Nat → BitVec 32) {L : List Trm} {n : Nat} (h : n < L.length) : (valsL x L)[n]? = some (valN x L n) := by
  unfold valN
  rw [List.getD_eq_getElem?_getD, List.getElem?_eq_getElem (by rw [vals_len]; exact h)]; rfl
/-- A row of words under way: as many as the rounds, in the call's own memory. -/
structure Vw (w : World) (l : List (BitVec 32)) (k : Nat) (v : Value) (W : World) : Prop where
  row : W.ownsRow w.heap.size 23 1 v k (wdsC (l.take k))
  low : Below w.heap.size w W
theorem Vw.below {w W W' : World} {l : List (BitVec 32)} {k : Nat} {p : Option Addr} {n c : Nat} (h : Vw w l k (.slice p n c) W) (hb : Below W.heap.size W W') : Vw w l k (.slice p n c) W' :=
  ⟨h.row.kept (grown_belowT hb) (by cases (Value.slice p n c).ownBlock <;> simp), h.low.trans (hb.mono h.low.size)⟩
theorem Vw.at {w W : World} {l : List (BitVec 32)} {k : Nat} {p : Option Addr} {c : Nat} (h : Vw w l k (.slice p k c) W) {a : Nat} {x : BitVec 32} (ha : a < k) (hx : l[a]? = some x) : ∃ gg, p = some ⟨gg, 0, none⟩ ∧ W.cell? ⟨gg, a, none⟩ = some (.int .u32 (x.toNat : Int)) := by
  obtain ⟨gg, rfl⟩ := own_some h.row (by omega)
  exact ⟨gg, rfl, (h.row.cellAt a (by omega)).trans (wds_get hx ha)⟩
theorem Vw.push {w W W' : World} {l : List (BitVec 32)} {k : Nat} {v v' : Value} {x : BitVec 32} (h : Vw w l k v W) (hx : l[k]? = some x) (hown : W'.ownsRow w.heap.size 23 1 v' (k + 1) (wdsC (l.take k) ++ [.int .u32 (x.toNat : Int)])) {o : Obj} (hg : (W.alloc o).grownBy W' v.ownBlock) : Vw w l (k + 1) v' W' :=
  ⟨by rw [wds_snoc hx]; exact hown, h.low.trans ((((Below.refl _ W).alloc h.low.size o).grown hg (by simp; have := h.low.size; omega) (fun j e => (h.row.lt j e).1)))⟩
theorem nodeE_no {L : List Trm} {n : Int} (h : n < 0 ∨ (L.length : Int) ≤ n) : nodeE L n = 100 ∧ varsN L n = (BitVec.ofNat 32 0) ∧ ∀ x, evalN x L n = (BitVec.ofNat 32 0) := by
  have e : hasN L n = false := by unfold hasN; exact decide_eq_false (by omega)
  unfold nodeE varsN evalN
  rw [e]
  exact ⟨rfl, rfl, fun _ => rfl⟩
theorem nodeE_yes {L : List Trm} {d : Nat} (h : d < L.length) : nodeE L (d : Int) = 0 ∧ varsN L (d : Int) = needN L d ∧ ∀ x, evalN x L (d : Int) = valN x L d := by
  have e : hasN L (d : Int) = true := by unfold hasN; exact decide_eq_true (by omega)
  unfold nodeE varsN evalN
  rw [e]
  exact ⟨rfl, rfl, fun _ => rfl⟩
theorem tbox (W : World) (a0 a1 a2 a3 a4 : Value) : (W.alloc (.cells #[a0, a1, a2, a3, a4] 36)).heap[W.heap.size]? = some (.cells #[a0, a1, a2, a3, a4] 36 (0, 0)) := heap_alloc_new W _
theorem two_shl : ∀ (r : Nat), r < 32 → (2 : Int) ^ r % 4294967296 = (((BitVec.ofNat 32 1) <<< r).toNat : Int) := by
  decide +kernel
theorem cell_one8T (w : World) (x : Value) (t : TypeId) : ∀ j u, [x][j]? = some u → (w.alloc (.cells #[x] t)).cell? ((⟨w.heap.size, 0, none⟩ : Addr).add j) = some u := by
  intro j u hj
  match j, hj with
  | 0, hj => simp at hj; subst hj; simp [Addr.add]
end Go.Proofs.Ythlefedljgmmfab
namespace Go.Proofs.Ythlefedljgmmfab
open Go.RowKit Go.Lib Tm
set_option linter.unusedSimpArgs false
set_option linter.unusedVariables false

variable {g : Nat} {L : List Trm} {fp : Nat → Prop}
theorem Vw.box {w W W' : World} {l : List (BitVec 32)} {k : Nat} {v : Value} (h : Vw w l k v W) {b : Nat} {cs : Array Value} {t : TypeId} {fr : Nat × Nat} (hb : W.heap[b]? = some (.cells cs t fr)) (hne : t ≠ 23) {o : Obj} (hg : (W.alloc o).grownBy W' v.ownBlock) : W'.heap[b]? = some (.cells cs t fr) :=
  (hg.block b (by rw [World.size_alloc]; have := (Array.getElem?_eq_some_iff.1 hb).1; omega) (row_boxT h.row hb hne)).trans (keptN ((Below.refl _ W).alloc (Nat.le_refl _) o) hb)
/-- What is read of a reckoning's parts while the order is drawn. -/
def HeldT (w : World) (B gm : Nat) (op : Int) (a b : Nat) (x y : Int) (W : World) : Prop :=
  W.cell? ⟨B, 2, none⟩ = some (.int .i64 op) ∧ W.cell? ⟨B, 3, none⟩ = some (.int .i64 (a : Int)) ∧ W.cell? ⟨B, 4, none⟩ = some (.int .i64 (b : Int)) ∧ W.cell? ⟨gm, a, none⟩ = some (.int .u32 x) ∧ W.cell? ⟨gm, b, none⟩ = some (.int .u32 y) ∧ Below w.heap.size w W
theorem cell_lt {W : World} {b j : Nat} {v : Value} (h : W.cell? ⟨b, j, none⟩ = some v) : b < W.heap.size := by
  cases e : W.heap[b]? with
  | none => simp [World.cell?, e] at h
  | some o => exact (Array.getElem?_eq_some_iff.1 e).1
theorem HeldT.below {w : World} {B gm : Nat} {op : Int} {a b : Nat} {x y : Int} {W W' : World} (h : HeldT w B gm op a b x y W) (hb : Below W.heap.size W W') : HeldT w B gm op a b x y W' := by
  obtain ⟨h1, h2, h3, h4, h5, h6⟩ := h
  exact ⟨(hb.cell (cell_lt h1)).trans h1, (hb.cell (cell_lt h2)).trans h2, (hb.cell (cell_lt h3)).trans h3, (hb.cell (cell_lt h4)).trans h4, (hb.cell (cell_lt h5)).trans h5, h6.trans (hb.mono h6.size)⟩
theorem HeldT.drew {w : World} {B gm : Nat} {op : Int} {a b : Nat} {x y : Int} {W : World} (h : HeldT w B gm op a b x y W) : HeldT w B gm op a b x y W.drew := h.below (Below.refl _ W).drew
end Go.Proofs.Ythlefedljgmmfab
