/-
  A program among a law's arguments: opened.
-/
import Derived.Test.YtkfomhllaogplaaED
import Derived.ProofKit
import Derived.OpenShut
import Derived.Carry
import Derived.Deep.Slices
import Derived.ChangeSame
import Derived.ChangeMaps
namespace Go.Proofs.Ytkfomhllaogplaa
open Go.ChangeShapes Go.WideShapes Go.ChangeAt Go.RowKit Go.Deep El
set_option linter.unusedSimpArgs false

theorem laidOut6 : laidOutB Try.prog = true := by kernel_rfl
theorem cellsEU : Try.prog.cellsOf 22 = 1 := by kernel_rfl
theorem cellsES : Try.prog.cellsOf 9 = 1 := by kernel_rfl
theorem cellsEI : Try.prog.cellsOf 3 = 1 := by kernel_rfl
theorem cellsEG : Try.prog.cellsOf 42 = 4 := by kernel_rfl
theorem cellsEL : Try.prog.cellsOf 23 = 1 := by kernel_rfl
theorem cellsEE : Try.prog.cellsOf 25 = 3 := by kernel_rfl
theorem spotE {w : World} {a : Addr} {v : Value} (h : w.cell? a = some v) : a.spot = none := by
  unfold World.cell? at h
  split at h <;> simp_all
theorem ltE {w : World} {a : Addr} {v : Value} (h : w.cell? a = some v) : a.block < w.heap.size := by
  unfold World.cell? at h
  split at h
  · rename_i e; exact (Array.getElem?_eq_some_iff.1 e).1
  · cases h
theorem addE (a : Addr) (i j : Nat) (h : a.spot = none) : (a.add i).add j = ⟨a.block, a.off + i + j, none⟩ := by
  obtain ⟨b, o, s⟩ := a
  simp only at h
  subst h
  unfold Addr.add
  by_cases hi : i = 0 <;> by_cases hj : j = 0 <;> simp [hi, hj]
theorem u32_of (a : Int) (h : (Lit.int .u32 a).wf = true) : ∃ x : BitVec 32, a = (x.toNat : Int) := by
  have hb := bounds_u32 h
  refine ⟨BitVec.ofNat 32 a.toNat, ?_⟩
  rw [BitVec.toNat_ofNat, Nat.mod_eq_of_lt (by omega)]; omega
theorem list4 {α : Type} {cs : List α} (h : cs.length = 4) : ∃ c0 c1 c2 c3, cs = [c0, c1, c2, c3] := by
  match cs, h with
  | [c0, c1, c2, c3], _ => exact ⟨c0, c1, c2, c3, rfl⟩
theorem list3 {α : Type} {cs : List α} (h : cs.length = 3) : ∃ c0 c1 c2, cs = [c0, c1, c2] := by
  match cs, h with
  | [c0, c1, c2], _ => exact ⟨c0, c1, c2, rfl⟩
section
variable {H : Type} {enc : TypeId × Value → H} {W : World}
theorem open_seg {base : Nat} {spare : Nat → Bool} {held : Bool} {fuel : Nat} {cs : List Value} {x : DataW H × List MemPlace} (h : DataW.trod enc Try.prog W base spare held fuel 42 cs = some x) :
    ∃ g : Seg, cs = [.int .u32 (g.addr.toNat : Int), .string ⟨g.data.toArray⟩, .int .i64 g.size, .int .i64 g.flags] ∧ Fits g := by
  obtain ⟨xs, n, _, hx, hl, hlen, hg⟩ := DataW.trod_struct Try.underlying42 h
  obtain ⟨c0, c1, c2, c3, rfl⟩ := list4 (hl.trans cellsEG)
  have h0 := hg 0 _ rfl
  have h1 := hg 1 _ rfl
  have h2 := hg 2 _ rfl
  have h3 := hg 3 _ rfl
  match xs, hlen with
  | [y0, y1, y2, y3], _ =>
    simp [cellsEU, cellsES, cellsEI] at h0 h1 h2 h3
    obtain ⟨a0, e0, rfl, w0⟩ := DataW.trod_int Try.underlying22 h0
    obtain ⟨s, e1, rfl, w1⟩ := DataW.trod_string Try.underlying9 h1
    obtain ⟨a2, e2, rfl, w2⟩ := DataW.trod_int Try.underlying3 h2
    obtain ⟨a3, e3, rfl, w3⟩ := DataW.trod_int Try.underlying3 h3
    simp at e0 e1 e2 e3
    subst e0 e1 e2 e3
    obtain ⟨b, rfl⟩ := u32_of a0 w0
    exact ⟨⟨b, s.data.toList, a2, a3⟩, rfl, (bounds_i64 w2).1, (bounds_i64 w2).2⟩
theorem csS_flat (f : Nat → Seg) (n j : Nat) (hj : j < n * 4) : (csS ((List.range n).map f))[j]? = [Value.int .u32 ((f (j / 4)).addr.toNat : Int), .string ⟨(f (j / 4)).data.toArray⟩, .int .i64 (f (j / 4)).size, .int .i64 (f (j / 4)).flags][j % 4]? := by
  have hx : ((List.range n).map f)[j / 4]? = some (f (j / 4)) := by rw [List.getElem?_map, List.getElem?_range (by omega)]; rfl
  obtain ⟨a, b, c, d⟩ := csS_at _ _ _ hx
  have hr : j % 4 = 0 ∨ j % 4 = 1 ∨ j % 4 = 2 ∨ j % 4 = 3 := by omega
  rcases hr with h | h | h | h
  · rw [h, show j = j / 4 * 4 by omega, a]; simp [show j / 4 * 4 / 4 = j / 4 by omega]
  · rw [h, show j = j / 4 * 4 + 1 by omega, b]; simp [show (j / 4 * 4 + 1) / 4 = j / 4 by omega]
  · rw [h, show j = j / 4 * 4 + 2 by omega, c]; simp [show (j / 4 * 4 + 2) / 4 = j / 4 by omega]
  · rw [h, show j = j / 4 * 4 + 3 by omega, d]; simp [show (j / 4 * 4 + 3) / 4 = j / 4 by omega]
theorem open_segs {fuel : Nat} {cs : List Value} {x : DataW H × List MemPlace} (h : DataW.trod enc Try.prog W 0 (fun _ => true) true fuel 23 cs = some x) : ∃ v l, cs = [v] ∧ SlS W v l ∧ ∀ g ∈ l, Fits g := by
  rcases open_slice Try.underlying23 h with ⟨h0, _⟩ | ⟨a, len, cap, m, n, D, Pl, h0, hb, hl, hm, hmm, _, hx⟩
  · exact ⟨_, [], h0, .inl ⟨none, 0, rfl, rfl⟩, fun g hg => by simp at hg⟩
  · simp only [if_true] at hmm
    subst hmm
    have each : ∀ i, i < len → ∃ g : Seg, (∀ j, j < 4 → W.cell? ((a.add (i * 4)).add j) = [Value.int .u32 (g.addr.toNat : Int), .string ⟨g.data.toArray⟩, .int .i64 g.size, .int .i64 g.flags][j]?) ∧ Fits g := by
      intro i hi
      obtain ⟨cs', h1, h2⟩ := hx i (by omega)
      rw [cellsEG] at h1
      obtain ⟨_, hlen, hcell⟩ := World.cells?_some h1
      obtain ⟨g, rfl, hf⟩ := open_seg h2
      exact ⟨g, hcell, hf⟩
    haveI : Inhabited Seg := ⟨⟨0, [], 0, 0⟩⟩
    obtain ⟨f, hf⟩ := choose_lt each
    refine ⟨_, (List.range len).map f, h0, ?_, fun g hg => ?_⟩
    · by_cases hz : len = 0
      · subst hz; exact .inl ⟨_, _, rfl, rfl⟩
      · have c0 := (hf 0 (by omega)).1 0 (by omega)
        rw [show (a.add (0 * 4)).add 0 = a by unfold Addr.add; simp] at c0
        have hsp : a.spot = none := spotE (w := W) (a := a) c0
        have hlt : a.block < W.heap.size := ltE (w := W) (a := a) c0
        obtain ⟨b, o, s⟩ := a
        simp only at hsp hlt
        subst hsp
        refine .inr ⟨b, o, m, by simp, by simpa using hl, hlt, fun j hj => ?_⟩
        simp only [List.length_map, List.length_range] at hj
        rw [csS_flat f len j hj, ← (hf (j / 4) (by omega)).1 (j % 4) (by omega), addE _ _ _ rfl]
        show W.cell? ⟨b, o + j, none⟩ = W.cell? ⟨b, o + j / 4 * 4 + j % 4, none⟩
        rw [show o + j / 4 * 4 + j % 4 = o + j by omega]
    · obtain ⟨i, hi, rfl⟩ := List.mem_map.1 hg
      exact (hf i (List.mem_range.1 hi)).2
set_option maxRecDepth 100000 in
theorem open_elf {b0 : Nat} {v : Value} {d : DataW H} {p : List MemPlace} (hv : Value.okWide Try.prog W .any b0 25 v) (h : DataW.Trod enc Try.prog W 0 (fun _ => true) true 25 v d p) :
    ∃ (x : Prg) (u : Value), v = prgV x u ∧ SlS W u x.segs ∧ ∀ g ∈ x.segs, Fits g := by
  obtain ⟨cs, rfl, hsz⟩ := okWide_struct Try.underlying25 hv
  obtain ⟨fuel, hf⟩ := h
  obtain ⟨xs, n, _, _, hl, hlen, hg⟩ := DataW.trod_struct Try.underlying25 hf
  rw [cellsEE] at hl
  have h0 := hg 0 _ rfl
  have h1 := hg 1 _ rfl
  have h2 := hg 2 _ rfl
  clear hg
  obtain ⟨c0, c1, c2, hcs⟩ := list3 hl
  have hcs : cs.toList = [c0, c1, c2] := hcs
  have hcs' : cs = #[c0, c1, c2] := by rw [← Array.toArray_toList (xs := cs), hcs]
  subst hcs'
  match xs, hlen with
  | [y0, y1, y2], _ =>
    simp [Value.cells, cellsEU, cellsEL] at h0 h1 h2
    obtain ⟨a0, e0, _, w0⟩ := DataW.trod_int Try.underlying22 h0
    obtain ⟨a1, e1, _, w1⟩ := DataW.trod_int Try.underlying22 h1
    obtain ⟨u, l, e2, hS, hF⟩ := open_segs h2
    simp at e0 e1 e2
    subst e0 e1 e2
    obtain ⟨x0, rfl⟩ := u32_of a0 w0
    obtain ⟨x1, rfl⟩ := u32_of a1 w1
    exact ⟨⟨x0, x1, l⟩, _, rfl, hS, hF⟩
end
end Go.Proofs.Ytkfomhllaogplaa
