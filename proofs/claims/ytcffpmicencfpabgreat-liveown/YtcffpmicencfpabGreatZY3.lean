/-
  A slice of instructions: in memory, and among a law's arguments.
  Contracts of the document's layer 9: one, Uses, Sets.
-/
import Derived.Test.YtcffpmicencfpabGreatRows
import Derived.WalkKit
import Derived.ProofKit
import Derived.OpenShut
import Derived.Below
import Derived.Deep.Slices
import Derived.ChangeSame
import Derived.ChangeMaps
import Derived.Test.YtcffpmicencfpabGreatZC1
import Derived.Test.YtcffpmicencfpabGreatZY1
namespace Go.Proofs.YtcffpmicencfpabGreat
open Go.ChangeShapes Go.WideShapes Go.ChangeAt Go.RowKit Go.Deep Ip Bl Go.Lib
set_option linter.unusedSimpArgs false
set_option linter.unusedVariables false

def csN (l : List Ins) : List Value := l.flatMap fun x => [.int .i64 x.op, .int .i64 x.rd, .int .i64 x.rs1, .int .i64 x.rs2, .int .i64 x.imm]
theorem csN_app (l r : List Ins) : csN (l ++ r) = csN l ++ csN r := by simp [csN]
theorem csN_len (l : List Ins) : (csN l).length = l.length * 5 := by
  induction l with
  | nil => rfl
  | cons p r ih => unfold csN at ih ⊢; rw [List.flatMap_cons, List.length_append, ih]; simp; omega
/-- A slice of instructions. -/
def SlN (W : World) (v : Value) (l : List Ins) : Prop :=
  (∃ p c, v = .slice p 0 c ∧ l = []) ∨ ∃ g o cap, v = .slice (some ⟨g, o, none⟩) l.length cap ∧ g < W.heap.size ∧ ∀ j, j < l.length * 5 → W.cell? ⟨g, o + j, none⟩ = (csN l)[j]?
theorem SlN.below {W W' : World} {v : Value} {l : List Ins} (h : SlN W v l) (hb : Below W.heap.size W W') : SlN W' v l := by
  rcases h with h | ⟨g, o, cap, rfl, hg, hc⟩
  · exact .inl h
  · exact .inr ⟨g, o, cap, rfl, Nat.lt_of_lt_of_le hg hb.size, fun j hj => by rw [(bcell hb).1 _ _ hg]; exact hc j hj⟩
theorem SlN.of_owns {W : World} {B : Nat} {v : Value} {l : List Ins} (h : W.ownsRow B 38 5 v l.length (csN l)) : SlN W v l := by
  rcases h.2 with ⟨rfl, hn⟩ | ⟨g, cap, cur, rfl, h2, h3, h4⟩
  · exact .inl ⟨_, _, rfl, List.eq_nil_of_length_eq_zero hn⟩
  · refine .inr ⟨g, 0, cap, rfl, (Array.getElem?_eq_some_iff.1 h3).1, fun j hj => ?_⟩
    rw [Nat.zero_add]; exact h.cellAt j hj
theorem csN_take (l : List Ins) (n : Nat) : csN (l.take n) = (csN l).take (n * 5) := by
  induction l generalizing n with
  | nil => simp [csN]
  | cons x l ih =>
    cases n with
    | zero => simp [csN]
    | succ n =>
      have := ih n
      unfold csN at this ⊢
      rw [List.take_succ_cons, List.flatMap_cons, List.flatMap_cons, this, show (n + 1) * 5 = [Value.int .i64 x.op, .int .i64 x.rd, .int .i64 x.rs1, .int .i64 x.rs2, .int .i64 x.imm].length + n * 5 by simp; omega, List.take_length_add_append]
theorem SlN.len {W : World} {v : Value} {l : List Ins} (h : SlN W v l) : ∃ p c, v = .slice p l.length c := by
  rcases h with ⟨p, c, rfl, rfl⟩ | ⟨g, o, cap, rfl, _⟩ <;> exact ⟨_, _, rfl⟩
theorem SlN.cut {W : World} {p : Option Addr} {n c : Nat} {l : List Ins} (h : SlN W (.slice p n c) l) (k : Nat) (hk : k ≤ n) : SlN W (.slice p k c) (l.take k) := by
  rcases h with ⟨p', c', e, rfl⟩ | ⟨g, o, cap, e, hg, hc⟩
  · injection e with e1 e2 e3
    subst e1 e2 e3
    obtain rfl : k = 0 := by omega
    exact .inl ⟨_, _, rfl, by simp⟩
  · injection e with e1 e2 e3
    subst e1 e2 e3
    have hl : (l.take k).length = k := by simp; omega
    refine .inr ⟨g, o, c, by rw [hl], hg, fun j hj => ?_⟩
    rw [hl] at hj
    rw [hc j (by omega), csN_take, List.getElem?_take_of_lt hj]
theorem csN_at (l : List Ins) (i : Nat) (x : Ins) (h : l[i]? = some x) : (csN l)[i * 5]? = some (.int .i64 x.op) ∧ (csN l)[i * 5 + 1]? = some (.int .i64 x.rd) ∧ (csN l)[i * 5 + 2]? = some (.int .i64 x.rs1) ∧ (csN l)[i * 5 + 3]? = some (.int .i64 x.rs2) ∧ (csN l)[i * 5 + 4]? = some (.int .i64 x.imm) := by
  induction l generalizing i with
  | nil => simp at h
  | cons a l ih =>
    have e : csN (a :: l) = [.int .i64 a.op, .int .i64 a.rd, .int .i64 a.rs1, .int .i64 a.rs2, .int .i64 a.imm] ++ csN l := by simp [csN]
    cases i with
    | zero => simp at h; subst h; rw [e]; simp
    | succ i =>
      have ih := ih i (by simpa using h)
      rw [e]
      have q : ∀ k, ([Value.int .i64 a.op, .int .i64 a.rd, .int .i64 a.rs1, .int .i64 a.rs2, .int .i64 a.imm] ++ csN l)[(i + 1) * 5 + k]? = (csN l)[i * 5 + k]? := fun k => by
        rw [List.getElem?_append_right (by simp; omega)]; congr 1; simp; omega
      have q0 := q 0
      simp only [Nat.add_zero] at q0
      rw [q0, q 1, q 2, q 3, q 4]; exact ih
theorem SlN.at {W : World} {g o : Nat} {l : List Ins} (hc : ∀ j, j < l.length * 5 → W.cell? ⟨g, o + j, none⟩ = (csN l)[j]?) (i : Nat) (x : Ins) (h : l[i]? = some x) :
    W.cell? ⟨g, o + i * 5, none⟩ = some (.int .i64 x.op) ∧ W.cell? ⟨g, o + i * 5 + 1, none⟩ = some (.int .i64 x.rd) ∧ W.cell? ⟨g, o + i * 5 + 2, none⟩ = some (.int .i64 x.rs1) ∧ W.cell? ⟨g, o + i * 5 + 3, none⟩ = some (.int .i64 x.rs2) ∧ W.cell? ⟨g, o + i * 5 + 4, none⟩ = some (.int .i64 x.imm) := by
  have hi : i < l.length := (List.getElem?_eq_some_iff.1 h).1
  obtain ⟨a, b, c, d, e⟩ := csN_at l i x h
  refine ⟨(hc _ (by omega)).trans a, ?_, ?_, ?_, ?_⟩
  · rw [Nat.add_assoc]; exact (hc _ (by omega)).trans b
  · rw [Nat.add_assoc]; exact (hc _ (by omega)).trans c
  · rw [Nat.add_assoc]; exact (hc _ (by omega)).trans d
  · rw [Nat.add_assoc]; exact (hc _ (by omega)).trans e
theorem cellN_spot {w : World} {a : Addr} {v : Value} (h : w.cell? a = some v) : a.spot = none := by
  unfold World.cell? at h
  split at h
  · split at h
    · cases h
    · rename_i hs; simpa using hs
  · cases h
theorem cellN_lt {w : World} {a : Addr} {v : Value} (h : w.cell? a = some v) : a.block < w.heap.size := by
  unfold World.cell? at h
  split at h
  · rename_i e; exact (Array.getElem?_eq_some_iff.1 e).1
  · cases h
theorem cellsNX : Tryz.prog.cellsOf 38 = 5 := by kernel_rfl
theorem cellsNI : Tryz.prog.cellsOf 3 = 1 := by kernel_rfl
theorem listN5 {α : Type} {cs : List α} (h : cs.length = 5) : ∃ c0 c1 c2 c3 c4, cs = [c0, c1, c2, c3, c4] := by
  match cs, h with
  | [c0, c1, c2, c3, c4], _ => exact ⟨c0, c1, c2, c3, c4, rfl⟩
section
variable {H : Type} {enc : TypeId × Value → H} {w : World} {base : Nat} {spare : Nat → Bool} {held : Bool}
theorem open_insN {fuel : Nat} {cs : List Value} {x : DataW H × List MemPlace} (h : DataW.trod enc Tryz.prog w base spare held fuel 38 cs = some x) :
    ∃ r : Ins, cs = [.int .i64 r.op, .int .i64 r.rd, .int .i64 r.rs1, .int .i64 r.rs2, .int .i64 r.imm] := by
  obtain ⟨xs, n, _, hx, hl, hlen, hg⟩ := DataW.trod_struct Tryz.underlying38 h
  obtain ⟨c0, c1, c2, c3, c4, rfl⟩ := listN5 (hl.trans cellsNX)
  have h0 := hg 0 _ rfl
  have h1 := hg 1 _ rfl
  have h2 := hg 2 _ rfl
  have h3 := hg 3 _ rfl
  have h4 := hg 4 _ rfl
  match xs, hlen with
  | [y0, y1, y2, y3, y4], _ =>
    simp [cellsNI] at h0 h1 h2 h3 h4
    obtain ⟨a0, e0, rfl, w0⟩ := DataW.trod_int Tryz.underlying3 h0
    obtain ⟨a1, e1, rfl, w1⟩ := DataW.trod_int Tryz.underlying3 h1
    obtain ⟨a2, e2, rfl, w2⟩ := DataW.trod_int Tryz.underlying3 h2
    obtain ⟨a3, e3, rfl, w3⟩ := DataW.trod_int Tryz.underlying3 h3
    obtain ⟨a4, e4, rfl, w4⟩ := DataW.trod_int Tryz.underlying3 h4
    simp at e0 e1 e2 e3 e4
    subst e0 e1 e2 e3 e4
    exact ⟨⟨a0, a1, a2, a3, a4⟩, rfl⟩
end
section
variable {H : Type} {enc : TypeId × Value → H}
theorem addrN_add (a : Addr) (i j : Nat) (h : a.spot = none) : (a.add i).add j = ⟨a.block, a.off + i + j, none⟩ := by
  obtain ⟨b, o, s⟩ := a
  simp only at h
  subst h
  unfold Addr.add
  by_cases hi : i = 0 <;> by_cases hj : j = 0 <;> simp [hi, hj]
theorem csN_flat (ops : Nat → Ins) (n j : Nat) (hj : j < n * 5) : (csN ((List.range n).map ops))[j]? = [Value.int .i64 (ops (j / 5)).op, .int .i64 (ops (j / 5)).rd, .int .i64 (ops (j / 5)).rs1, .int .i64 (ops (j / 5)).rs2, .int .i64 (ops (j / 5)).imm][j % 5]? := by
  have hx : ((List.range n).map ops)[j / 5]? = some (ops (j / 5)) := by rw [List.getElem?_map, List.getElem?_range (by omega)]; rfl
  obtain ⟨a, b, c, d, e⟩ := csN_at _ _ _ hx
  have hr : j % 5 = 0 ∨ j % 5 = 1 ∨ j % 5 = 2 ∨ j % 5 = 3 ∨ j % 5 = 4 := by omega
  rcases hr with h | h | h | h | h
  · rw [h, show j = j / 5 * 5 by omega, a]; simp [show j / 5 * 5 / 5 = j / 5 by omega]
  · rw [h, show j = j / 5 * 5 + 1 by omega, b]; simp [show (j / 5 * 5 + 1) / 5 = j / 5 by omega]
  · rw [h, show j = j / 5 * 5 + 2 by omega, c]; simp [show (j / 5 * 5 + 2) / 5 = j / 5 by omega]
  · rw [h, show j = j / 5 * 5 + 3 by omega, d]; simp [show (j / 5 * 5 + 3) / 5 = j / 5 by omega]
  · rw [h, show j = j / 5 * 5 + 4 by omega, e]; simp [show (j / 5 * 5 + 4) / 5 = j / 5 by omega]
set_option maxRecDepth 100000 in
/-- A slice of instructions, opened. -/
theorem open_instsN {W : World} {x : Value} {d : DataW H} {p : List MemPlace} (hv : Value.okWide Tryz.prog W .any 0 52 x) (h : DataW.Trod enc Tryz.prog W 0 (fun _ => true) true 52 x d p) :
    ∃ (p : Option Addr) (c : Nat) (l : List Ins), x = .slice p l.length c ∧ SlN W x l ∧ l.length ≤ c ∧ c ≤ 9223372036854775807 := by
  obtain ⟨a0, l0, p0, rfl⟩ := okWide_slice Tryz.underlying52 hv
  obtain ⟨fuel, hf⟩ := h
  rcases open_slice Tryz.underlying52 hf with ⟨h0, _⟩ | ⟨a, len, cap, m, n, D, Pl, h0, hb, hl, hm, hmm, _, hx⟩
  · simp [Value.cells] at h0
    obtain ⟨rfl, rfl, rfl⟩ := h0
    exact ⟨none, 0, [], rfl, .inl ⟨_, _, rfl, rfl⟩, Nat.le_refl _, by omega⟩
  · simp [Value.cells] at h0
    obtain ⟨rfl, rfl, rfl⟩ := h0
    simp only [if_true] at hmm
    subst hmm
    have each : ∀ i, i < l0 → ∃ r : Ins, ∀ j, j < 5 → W.cell? ((a.add (i * 5)).add j) = [Value.int .i64 r.op, .int .i64 r.rd, .int .i64 r.rs1, .int .i64 r.rs2, .int .i64 r.imm][j]? := by
      intro i hi
      obtain ⟨cs', h1, h2⟩ := hx i (by omega)
      rw [cellsNX] at h1
      obtain ⟨_, hlen, hcell⟩ := World.cells?_some h1
      obtain ⟨r, rfl⟩ := open_insN h2
      exact ⟨r, hcell⟩
    haveI : Inhabited Ins := ⟨⟨0, 0, 0, 0, 0⟩⟩
    obtain ⟨ops, hops⟩ := choose_lt each
    refine ⟨some a, m, (List.range l0).map ops, by simp, ?_, by simp; omega, by unfold maxLen at hm; omega⟩
    by_cases hz : l0 = 0
    · subst hz; exact .inl ⟨_, _, rfl, rfl⟩
    · have c0 := hops 0 (by omega) 0 (by omega)
      have hsp : a.spot = none := cellN_spot (w := W) (a := a) c0
      have hlt : a.block < W.heap.size := cellN_lt (w := W) (a := a) c0
      obtain ⟨b, o, s⟩ := a
      simp only at hsp hlt
      subst hsp
      refine .inr ⟨b, o, m, by simp, hlt, fun j hj => ?_⟩
      simp only [List.length_map, List.length_range] at hj
      rw [csN_flat ops l0 j hj, ← hops (j / 5) (by omega) (j % 5) (by omega), addrN_add _ _ _ rfl]
      show W.cell? ⟨b, o + j, none⟩ = W.cell? ⟨b, o + j / 5 * 5 + j % 5, none⟩
      rw [show o + j / 5 * 5 + j % 5 = o + j by omega]
theorem instsN_nil {W : World} {x : Value} {d : DataW H} {p : List MemPlace} (h : DataW.Trod enc Tryz.prog W 0 (fun _ => true) true 52 x d p) :
    ∀ n c, x = .slice none n c → c = 0 := by
  intro n c e
  subst e
  obtain ⟨fuel, hf⟩ := h
  rcases open_slice Tryz.underlying52 hf with ⟨h0, _⟩ | ⟨a, len, cap, m, n, D, Pl, h0, _⟩
  · simp [Value.cells] at h0; exact h0.2
  · simp [Value.cells] at h0
end
end Go.Proofs.YtcffpmicencfpabGreat
namespace Go.Proofs.YtcffpmicencfpabGreat
open Go.RowKit Go.Lib Ip Bl Lv
set_option linter.unusedSimpArgs false
set_option linter.unusedVariables false

theorem retw {a b : Int} (h : a = b) : Ending.returned (.int .u32 a) = .returned (.int .u32 b) := by rw [h]
theorem one_shl (d : Nat) (hd : d < 32) (h0 : d ≠ 0) : ((2 : Int) ^ d) % 4294967296 = ((oneB (d : Int)).toNat : Int) := by
  have h : ∀ d : Nat, d < 32 → d ≠ 0 → ((2 : Int) ^ d) % 4294967296 = ((oneB (d : Int)).toNat : Int) := by decide +kernel
  exact h d hd h0
theorem uses_no {x : Ins} (h : rightI x = false ∨ x.op = 3 ∨ x.op = 46) : ((usesB x).toNat : Int) = 4294967294 := by unfold usesB; rw [if_pos h]; rfl
theorem uses_call {x : Ins} (h : ¬ (rightI x = false ∨ x.op = 3 ∨ x.op = 46)) (h2 : x.op = 45) : ((usesB x).toNat : Int) = 261120 := by unfold usesB; rw [if_neg h, if_pos h2]; rfl
theorem uses_two {x : Ins} (h : ¬ (rightI x = false ∨ x.op = 3 ∨ x.op = 46)) (h2 : ¬ x.op = 45) : usesB x = oneB x.rs1 ||| oneB x.rs2 := by unfold usesB; rw [if_neg h, if_neg h2]
theorem sets_no {x : Ins} (h : rightI x = false) : ((setsB x).toNat : Int) = 0 := by unfold setsB; rw [if_pos h]; rfl
theorem sets_call {x : Ins} (h : rightI x = true) (h2 : x.op = 45) : ((setsB x).toNat : Int) = 1024 := by unfold setsB; rw [if_neg (by rw [h]; simp), if_pos h2]; rfl
theorem sets_one {x : Ins} (h : rightI x = true) (h2 : ¬ x.op = 45) : setsB x = oneB x.rd := by unfold setsB; rw [if_neg (by rw [h]; simp), if_neg h2]
theorem drop_get {l : List Ins} {i : Nat} {x : Ins} (n : BitVec 32) (h : l[i]? = some x) : backB (l.drop i) n = stepB x (backB (l.drop (i + 1)) n) := by
  obtain ⟨hi, he⟩ := List.getElem?_eq_some_iff.1 h
  rw [List.drop_eq_getElem_cons hi, he]; rfl
theorem SlN.get {W : World} {p : Option Addr} {n c : Nat} {l : List Ins} (h : SlN W (.slice p n c) l) {i : Nat} {x : Ins} (hx : l[i]? = some x) : ∃ g o, p = some ⟨g, o, none⟩ := by
  rcases h with ⟨_, _, _, rfl⟩ | ⟨g, o, cap, e, hg, hc⟩
  · simp at hx
  · injection e with e1 e2 e3
    exact ⟨g, o, e1⟩
theorem SlN.five {W : World} {g o n c : Nat} {l : List Ins} (h : SlN W (.slice (some ⟨g, o, none⟩) n c) l) {i : Nat} {op rd rs1 rs2 imm : Int} (hx : l[i]? = some ⟨op, rd, rs1, rs2, imm⟩) : W.cell? ⟨g, o + i * 5, none⟩ = some (.int .i64 op) ∧ W.cell? ⟨g, o + i * 5 + 1, none⟩ = some (.int .i64 rd) ∧ W.cell? ⟨g, o + i * 5 + 2, none⟩ = some (.int .i64 rs1) ∧ W.cell? ⟨g, o + i * 5 + 3, none⟩ = some (.int .i64 rs2) ∧ W.cell? ⟨g, o + i * 5 + 4, none⟩ = some (.int .i64 imm) := by
  rcases h with ⟨_, _, _, rfl⟩ | ⟨g', o', cap, e, hg, hc⟩
  · simp at hx
  · injection e with e1 e2 e3
    injection e1 with e1
    injection e1 with e4 e5
    subst e4 e5
    exact SlN.at hc i _ hx
end Go.Proofs.YtcffpmicencfpabGreat
