/-
  A machine, and a run (instructions, what counts behind them), among a law's arguments: opened.
-/
import Derived.ProofKit
import Derived.OpenShut
import Derived.Carry
import Derived.Deep.Slices
import Derived.ChangeSame
import Derived.ChangeMaps
import Derived.Test.YtcffpmicencfpaaZC1
import Derived.Test.YtcffpmicencfpaaZY3
import Derived.Test.YtcffpmicencfpaaZY8
namespace Go.Proofs.Ytcffpmicencfpaa
open Go.ChangeShapes Go.WideShapes Go.ChangeAt Go.RowKit Go.Deep Ip Bl Cp Lv
set_option linter.unusedSimpArgs false

theorem cellsYA : Try.prog.cellsOf 30 = 32 := by kernel_rfl
theorem cellsYC : Try.prog.cellsOf 32 = 33 := by kernel_rfl
theorem take_oneY {α : Type} {cs : List α} {i : Nat} {a : α} (h : (cs.drop i).take 1 = [a]) : cs[i]? = some a := by
  have : ((cs.drop i).take 1)[0]? = some a := by rw [h]; rfl
  rw [List.getElem?_take_of_lt (by omega), List.getElem?_drop] at this
  simpa using this
section
variable {H : Type} {enc : TypeId × Value → H} {W : World}
set_option maxRecDepth 100000 in
theorem open_cpuY {fuel : Nat} {cs : List Value} {x : DataW H × List MemPlace} (h : DataW.trod enc Try.prog W 0 (fun _ => true) true fuel 32 cs = some x) : ∃ c : Mach, cs = (cells c).toList := by
  obtain ⟨xs, n, _, _, hl, hlen, hg⟩ := DataW.trod_struct Try.underlying32 h
  rw [cellsYC] at hl
  have h0 := hg 0 _ rfl
  have h1 := hg 1 _ rfl
  match xs, hlen with
  | [y0, y1], _ =>
    simp [cellsEU, cellsYA] at h0 h1
    obtain ⟨p, hp⟩ := open_word1 h1
    obtain ⟨ys, m, _, _, hla, hn, he⟩ := DataW.trod_array Try.underlying30 h0
    have each : ∀ i, i < 32 → ∃ a : BitVec 32, cs[i]? = some (.int .u32 (a.toNat : Int)) := by
      intro i hi
      have hy := he i hi
      rw [cellsEU, Nat.mul_one] at hy
      obtain ⟨z, hz⟩ : ∃ z, ys[i]? = some z := ⟨_, List.getElem?_eq_getElem (by omega)⟩
      rw [hz] at hy
      obtain ⟨a, ha⟩ := open_word1 hy
      have := take_oneY ha
      rw [List.getElem?_take_of_lt hi] at this
      exact ⟨a, this⟩
    obtain ⟨f, hf⟩ := choose_lt each
    have hpc := take_oneY hp
    refine ⟨⟨f, p⟩, ?_⟩
    apply List.ext_getElem?
    intro i
    have ht : (cells (⟨f, p⟩ : Mach)).toList[i]? = (cells (⟨f, p⟩ : Mach))[i]? := Array.getElem?_toList ..
    rw [ht]
    rcases Nat.lt_trichotomy i 32 with h1 | h1 | h1
    · rw [hf i h1, cells_x _ _ h1]
    · subst h1; rw [cells_pc]; exact hpc
    · rw [cells_out _ _ (by omega), List.getElem?_eq_none (by omega)]
set_option maxRecDepth 100000 in
theorem open_cpu9 {v : Value} {d : DataW H} {p : List MemPlace} (hv : Value.okWide Try.prog W .any 0 32 v) (h : DataW.Trod enc Try.prog W 0 (fun _ => true) true 32 v d p) : ∃ c : Mach, v = .agg (cells c) := by
  obtain ⟨cs, rfl, hsz⟩ := okWide_struct Try.underlying32 hv
  obtain ⟨fuel, hf⟩ := h
  obtain ⟨c, hc⟩ := open_cpuY hf
  refine ⟨c, ?_⟩
  have : cs.toList = (cells c).toList := hc
  rw [Array.toList_inj.1 this]
set_option maxRecDepth 100000 in
theorem open_instsC {fuel : Nat} {cs : List Value} {x : DataW H × List MemPlace} (h : DataW.trod enc Try.prog W 0 (fun _ => true) true fuel 24 cs = some x) :
    ∃ (p : Option Addr) (c : Nat) (l : List Ins), cs = [.slice p l.length c] ∧ SlN W (.slice p l.length c) l ∧ l.length ≤ c ∧ c ≤ 9223372036854775807 ∧ ∀ n c', Value.slice p l.length c = .slice none n c' → c' = 0 := by
  rcases open_slice Try.underlying24 h with ⟨h0, _⟩ | ⟨a, len, cap, m, n, D, Pl, h0, hb, hl, hm, hmm, _, hx⟩
  · exact ⟨none, 0, [], h0, .inl ⟨_, _, rfl, rfl⟩, Nat.le_refl _, by omega, fun n c' e => by injection e with _ _ e; exact e.symm⟩
  · simp only [if_true] at hmm
    subst hmm
    have each : ∀ i, i < len → ∃ r : Ins, ∀ j, j < 5 → W.cell? ((a.add (i * 5)).add j) = [Value.int .i64 r.op, .int .i64 r.rd, .int .i64 r.rs1, .int .i64 r.rs2, .int .i64 r.imm][j]? := by
      intro i hi
      obtain ⟨cs', h1, h2⟩ := hx i (by omega)
      rw [cellsNX] at h1
      obtain ⟨_, hlen, hcell⟩ := World.cells?_some h1
      obtain ⟨r, rfl⟩ := open_insN h2
      exact ⟨r, hcell⟩
    haveI : Inhabited Ins := ⟨⟨0, 0, 0, 0, 0⟩⟩
    obtain ⟨ops, hops⟩ := choose_lt each
    refine ⟨some a, m, (List.range len).map ops, by simpa using h0, ?_, by simp; omega, by unfold maxLen at hm; omega, fun n c' e => by injection e with e _ _; cases e⟩
    by_cases hz : len = 0
    · subst hz; exact .inl ⟨_, _, rfl, rfl⟩
    · have c0 := hops 0 (by omega) 0 (by omega)
      have hsp : a.spot = none := cellN_spot (w := W) (a := a) c0
      have hlt : a.block < W.heap.size := cellN_lt (w := W) (a := a) c0
      obtain ⟨b, o, s⟩ := a
      simp only at hsp hlt
      subst hsp
      refine .inr ⟨b, o, m, by simp, hlt, fun j hj => ?_⟩
      simp only [List.length_map, List.length_range] at hj
      rw [csN_flat ops len j hj, ← hops (j / 5) (by omega) (j % 5) (by omega), addrN_add _ _ _ rfl]
      show W.cell? ⟨b, o + j, none⟩ = W.cell? ⟨b, o + j / 5 * 5 + j % 5, none⟩
      rw [show o + j / 5 * 5 + j % 5 = o + j by omega]
theorem cellsYR : Try.prog.cellsOf 34 = 2 := by kernel_rfl
theorem list2Y {α : Type} {cs : List α} (h : cs.length = 2) : ∃ c0 c1, cs = [c0, c1] := by
  match cs, h with
  | [c0, c1], _ => exact ⟨c0, c1, rfl⟩
set_option maxRecDepth 100000 in
theorem open_run9 {v : Value} {d : DataW H} {p : List MemPlace} (hv : Value.okWide Try.prog W .any 0 34 v) (h : DataW.Trod enc Try.prog W 0 (fun _ => true) true 34 v d p) :
    ∃ (q : Option Addr) (c : Nat) (l : List Ins) (b : BitVec 32), v = .agg #[.slice q l.length c, .int .u32 (b.toNat : Int)] ∧ SlN W (.slice q l.length c) l ∧ l.length ≤ c ∧ c ≤ 9223372036854775807 ∧ ∀ n c', Value.slice q l.length c = .slice none n c' → c' = 0 := by
  obtain ⟨cs, rfl, hsz⟩ := okWide_struct Try.underlying34 hv
  obtain ⟨fuel, hf⟩ := h
  obtain ⟨xs, n, _, _, hl, hlen, hg⟩ := DataW.trod_struct Try.underlying34 hf
  rw [cellsYR] at hl
  have h0 := hg 0 _ rfl
  have h1 := hg 1 _ rfl
  clear hg
  obtain ⟨c0, c1, hcs⟩ := list2Y hl
  have hcs : cs.toList = [c0, c1] := hcs
  have hcs' : cs = #[c0, c1] := by rw [← Array.toArray_toList (xs := cs), hcs]
  subst hcs'
  match xs, hlen with
  | [y0, y1], _ =>
    have cellsYS : Try.prog.cellsOf 24 = 1 := by kernel_rfl
    simp [Value.cells, cellsEU, cellsYS] at h0 h1
    obtain ⟨q, c, l, e0, hS, h2, h3, h4⟩ := open_instsC h0
    obtain ⟨b, e1⟩ := open_word1 h1
    simp at e0 e1
    subst e0 e1
    exact ⟨q, c, l, b, rfl, hS, h2, h3, h4⟩
end
end Go.Proofs.Ytcffpmicencfpaa
