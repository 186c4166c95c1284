/-
  A slice of instructions among a law's arguments, opened.
-/
import Derived.Test.YtdjladaefoedfaaDoorRows
import Derived.WalkKit
import Derived.ProofKit
import Derived.OpenShut
import Derived.Below
import Derived.Deep.Slices
import Derived.ChangeSame
import Derived.ChangeMaps
import Derived.Test.YtdjladaefoedfaaDoorZA5
namespace Go.Proofs.YtdjladaefoedfaaDoor
open Go.ChangeShapes Go.WideShapes Go.ChangeAt Go.RowKit Go.Deep Ip As

theorem cellI_spot {w : World} {a : Addr} {v : Value} (h : w.cell? a = some v) : a.spot = none := by
  unfold World.cell? at h
  split at h
  · split at h
    · cases h
    · rename_i hs; simpa using hs
  · cases h
theorem cellI_lt {w : World} {a : Addr} {v : Value} (h : w.cell? a = some v) : a.block < w.heap.size := by
  unfold World.cell? at h
  split at h
  · rename_i e; exact (Array.getElem?_eq_some_iff.1 e).1
  · cases h
theorem cellsIX : Tryd.prog.cellsOf 23 = 5 := by kernel_rfl
theorem cellsII : Tryd.prog.cellsOf 3 = 1 := by kernel_rfl
theorem listI5 {α : Type} {cs : List α} (h : cs.length = 5) : ∃ c0 c1 c2 c3 c4, cs = [c0, c1, c2, c3, c4] := by
  match cs, h with
  | [c0, c1, c2, c3, c4], _ => exact ⟨c0, c1, c2, c3, c4, rfl⟩
section
variable {H : Type} {enc : TypeId × Value → H} {w : World} {base : Nat} {spare : Nat → Bool} {held : Bool}
theorem open_ins {fuel : Nat} {cs : List Value} {x : DataW H × List MemPlace} (h : DataW.trod enc Tryd.prog w base spare held fuel 23 cs = some x) :
    ∃ r : Ins, cs = [.int .i64 r.op, .int .i64 r.rd, .int .i64 r.rs1, .int .i64 r.rs2, .int .i64 r.imm] := by
  obtain ⟨xs, n, _, hx, hl, hlen, hg⟩ := DataW.trod_struct Tryd.underlying23 h
  obtain ⟨c0, c1, c2, c3, c4, rfl⟩ := listI5 (hl.trans cellsIX)
  have h0 := hg 0 _ rfl
  have h1 := hg 1 _ rfl
  have h2 := hg 2 _ rfl
  have h3 := hg 3 _ rfl
  have h4 := hg 4 _ rfl
  match xs, hlen with
  | [y0, y1, y2, y3, y4], _ =>
    simp [cellsII] at h0 h1 h2 h3 h4
    obtain ⟨a0, e0, rfl, w0⟩ := DataW.trod_int Tryd.underlying3 h0
    obtain ⟨a1, e1, rfl, w1⟩ := DataW.trod_int Tryd.underlying3 h1
    obtain ⟨a2, e2, rfl, w2⟩ := DataW.trod_int Tryd.underlying3 h2
    obtain ⟨a3, e3, rfl, w3⟩ := DataW.trod_int Tryd.underlying3 h3
    obtain ⟨a4, e4, rfl, w4⟩ := DataW.trod_int Tryd.underlying3 h4
    simp at e0 e1 e2 e3 e4
    subst e0 e1 e2 e3 e4
    exact ⟨⟨a0, a1, a2, a3, a4⟩, rfl⟩
end
section
variable {H : Type} {enc : TypeId × Value → H}
theorem addrI_add (a : Addr) (i j : Nat) (h : a.spot = none) : (a.add i).add j = ⟨a.block, a.off + i + j, none⟩ := by
  obtain ⟨b, o, s⟩ := a
  simp only at h
  subst h
  unfold Addr.add
  by_cases hi : i = 0 <;> by_cases hj : j = 0 <;> simp [hi, hj]
theorem csOf_flat (ops : Nat → Ins) (n j : Nat) (hj : j < n * 5) : (csOf ((List.range n).map ops))[j]? = [Value.int .i64 (ops (j / 5)).op, .int .i64 (ops (j / 5)).rd, .int .i64 (ops (j / 5)).rs1, .int .i64 (ops (j / 5)).rs2, .int .i64 (ops (j / 5)).imm][j % 5]? := by
  have hx : ((List.range n).map ops)[j / 5]? = some (ops (j / 5)) := by rw [List.getElem?_map, List.getElem?_range (by omega)]; rfl
  obtain ⟨a, b, c, d, e⟩ := csOf_at _ _ _ hx
  have hr : j % 5 = 0 ∨ j % 5 = 1 ∨ j % 5 = 2 ∨ j % 5 = 3 ∨ j % 5 = 4 := by omega
  rcases hr with h | h | h | h | h
  · rw [h, show j = j / 5 * 5 by omega, a]; simp [show j / 5 * 5 / 5 = j / 5 by omega]
  · rw [h, show j = j / 5 * 5 + 1 by omega, b]; simp [show (j / 5 * 5 + 1) / 5 = j / 5 by omega]
  · rw [h, show j = j / 5 * 5 + 2 by omega, c]; simp [show (j / 5 * 5 + 2) / 5 = j / 5 by omega]
  · rw [h, show j = j / 5 * 5 + 3 by omega, d]; simp [show (j / 5 * 5 + 3) / 5 = j / 5 by omega]
  · rw [h, show j = j / 5 * 5 + 4 by omega, e]; simp [show (j / 5 * 5 + 4) / 5 = j / 5 by omega]
set_option maxRecDepth 100000 in
/-- A slice of instructions, opened. -/
theorem open_insts {W : World} {x : Value} {d : DataW H} {p : List MemPlace} (hv : Value.okWide Tryd.prog W .any 0 34 x) (h : DataW.Trod enc Tryd.prog W 0 (fun _ => true) true 34 x d p) :
    ∃ (p : Option Addr) (c : Nat) (l : List Ins), x = .slice p l.length c ∧ SlA W x l ∧ l.length ≤ c ∧ c ≤ 9223372036854775807 := by
  obtain ⟨a0, l0, p0, rfl⟩ := okWide_slice Tryd.underlying34 hv
  obtain ⟨fuel, hf⟩ := h
  rcases open_slice Tryd.underlying34 hf with ⟨h0, _⟩ | ⟨a, len, cap, m, n, D, Pl, h0, hb, hl, hm, hmm, _, hx⟩
  · simp [Value.cells] at h0
    obtain ⟨rfl, rfl, rfl⟩ := h0
    exact ⟨none, 0, [], rfl, .inl ⟨_, _, rfl, rfl⟩, Nat.le_refl _, by omega⟩
  · simp [Value.cells] at h0
    obtain ⟨rfl, rfl, rfl⟩ := h0
    simp only [if_true] at hmm
    subst hmm
    have each : ∀ i, i < l0 → ∃ r : Ins, ∀ j, j < 5 → W.cell? ((a.add (i * 5)).add j) = [Value.int .i64 r.op, .int .i64 r.rd, .int .i64 r.rs1, .int .i64 r.rs2, .int .i64 r.imm][j]? := by
      intro i hi
      obtain ⟨cs', h1, h2⟩ := hx i (by omega)
      rw [cellsIX] at h1
      obtain ⟨_, hlen, hcell⟩ := World.cells?_some h1
      obtain ⟨r, rfl⟩ := open_ins h2
      exact ⟨r, hcell⟩
    haveI : Inhabited Ins := ⟨⟨0, 0, 0, 0, 0⟩⟩
    obtain ⟨ops, hops⟩ := choose_lt each
    refine ⟨some a, m, (List.range l0).map ops, by simp, ?_, by simp; omega, by unfold maxLen at hm; omega⟩
    by_cases hz : l0 = 0
    · subst hz; exact .inl ⟨_, _, rfl, rfl⟩
    · have c0 := hops 0 (by omega) 0 (by omega)
      have hsp : a.spot = none := cellI_spot (w := W) (a := a) c0
      have hlt : a.block < W.heap.size := cellI_lt (w := W) (a := a) c0
      obtain ⟨b, o, s⟩ := a
      simp only at hsp hlt
      subst hsp
      refine .inr ⟨b, o, m, by simp, hlt, fun j hj => ?_⟩
      simp only [List.length_map, List.length_range] at hj
      rw [csOf_flat ops l0 j hj, ← hops (j / 5) (by omega) (j % 5) (by omega), addrI_add _ _ _ rfl]
      show W.cell? ⟨b, o + j, none⟩ = W.cell? ⟨b, o + j / 5 * 5 + j % 5, none⟩
      rw [show o + j / 5 * 5 + j % 5 = o + j by omega]
theorem insts_nil {W : World} {x : Value} {d : DataW H} {p : List MemPlace} (h : DataW.Trod enc Tryd.prog W 0 (fun _ => true) true 34 x d p) :
    ∀ n c, x = .slice none n c → c = 0 := by
  intro n c e
  subst e
  obtain ⟨fuel, hf⟩ := h
  rcases open_slice Tryd.underlying34 hf with ⟨h0, _⟩ | ⟨a, len, cap, m, n, D, Pl, h0, _⟩
  · simp [Value.cells] at h0; exact h0.2
  · simp [Value.cells] at h0
end
end Go.Proofs.YtdjladaefoedfaaDoor
