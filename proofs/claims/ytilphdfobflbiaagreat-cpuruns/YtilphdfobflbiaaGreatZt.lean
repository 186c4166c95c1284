/-
  A machine among a law's arguments, and a world (a machine, two addresses, two texts, answers, fuel): opened; any argument is read again behind what has changed nothing old.
-/
import Derived.Test.YtilphdfobflbiaaGreatRows
import Derived.WalkKit
import Derived.ProofKit
import Derived.OpenShut
import Derived.Below
import Derived.Carry
import Derived.Deep.Slices
import Derived.Deep.MidRow
import Derived.ChangeSame
import Derived.ChangeMaps
import Derived.Test.YtilphdfobflbiaaGreatZm
namespace Go.Proofs.YtilphdfobflbiaaGreat
open Go.ChangeShapes Go.WideShapes Go.ChangeAt Go.RowKit Go.Maps Cp Ip Mm
set_option linter.unusedSimpArgs false

theorem laidOut4 : laidOutB Tryz.prog = true := by kernel_rfl
theorem cellsOU : Tryz.prog.cellsOf 22 = 1 := by kernel_rfl
theorem cellsOA : Tryz.prog.cellsOf 23 = 32 := by kernel_rfl
theorem cellsOC : Tryz.prog.cellsOf 25 = 33 := by kernel_rfl
theorem word_wf {a : Int} (h : (Lit.int .u32 a).wf = true) : ∃ x : BitVec 32, a = (x.toNat : Int) := by
  have := bounds_u32 h
  obtain ⟨X, e⟩ := Wd.of_int a this.1 (by omega)
  exact ⟨X, e⟩
section
variable {H : Type} {enc : TypeId × Value → H} {w : World} {base : Nat} {spare : Nat → Bool} {held : Bool}
theorem open_u32 {fuel : Nat} {cs : List Value} {x : DataW H × List MemPlace} (h : DataW.trod enc Tryz.prog w base spare held fuel 22 cs = some x) : ∃ a : BitVec 32, cs = [.int .u32 (a.toNat : Int)] := by
  obtain ⟨a, e, _, wf⟩ := DataW.trod_int Tryz.underlying22 h
  obtain ⟨X, rfl⟩ := word_wf wf
  exact ⟨X, e⟩
theorem take_one {α : Type} {cs : List α} {i : Nat} {a : α} (h : (cs.drop i).take 1 = [a]) : cs[i]? = some a := by
  have : ((cs.drop i).take 1)[0]? = some a := by rw [h]; rfl
  rw [List.getElem?_take_of_lt (by omega), List.getElem?_drop] at this
  simpa using this
theorem open_cpuL {fuel : Nat} {cs : List Value} {x : DataW H × List MemPlace} (h : DataW.trod enc Tryz.prog w base spare held fuel 25 cs = some x) : ∃ c : Mach, cs = (cells c).toList := by
  obtain ⟨xs, n, _, _, hl, hlen, hg⟩ := DataW.trod_struct Tryz.underlying25 h
  rw [cellsOC] at hl
  have h0 := hg 0 _ rfl
  have h1 := hg 1 _ rfl
  match xs, hlen with
  | [y0, y1], _ =>
    simp [cellsOU, cellsOA] at h0 h1
    obtain ⟨p, hp⟩ := open_u32 h1
    obtain ⟨ys, m, _, _, hla, hn, he⟩ := DataW.trod_array Tryz.underlying23 h0
    have each : ∀ i, i < 32 → ∃ a : BitVec 32, cs[i]? = some (.int .u32 (a.toNat : Int)) := by
      intro i hi
      have hy := he i hi
      rw [cellsOU, Nat.mul_one] at hy
      obtain ⟨z, hz⟩ : ∃ z, ys[i]? = some z := ⟨_, List.getElem?_eq_getElem (by omega)⟩
      rw [hz] at hy
      obtain ⟨a, ha⟩ := open_u32 hy
      have := take_one ha
      rw [List.getElem?_take_of_lt hi] at this
      exact ⟨a, this⟩
    obtain ⟨f, hf⟩ := Go.Deep.choose_lt each
    have hpc := take_one hp
    refine ⟨⟨f, p⟩, ?_⟩
    apply List.ext_getElem?
    intro i
    have ht : (cells (⟨f, p⟩ : Mach)).toList[i]? = (cells (⟨f, p⟩ : Mach))[i]? := Array.getElem?_toList ..
    rw [ht]
    rcases Nat.lt_trichotomy i 32 with h1 | h1 | h1
    · rw [hf i h1, cells_x _ _ h1]
    · subst h1; rw [cells_pc]; exact hpc
    · rw [cells_out _ _ (by omega), List.getElem?_eq_none (by omega)]
set_option maxRecDepth 100000 in
theorem open_cpu {r : Reach} {b0 : Nat} {v : Value} {d : DataW H} {p : List MemPlace} (hv : Value.okWide Tryz.prog w r b0 25 v) (h : DataW.Trod enc Tryz.prog w base spare held 25 v d p) : ∃ c : Mach, v = .agg (cells c) := by
  obtain ⟨cs, rfl, hsz⟩ := okWide_struct Tryz.underlying25 hv
  obtain ⟨fuel, hf⟩ := h
  obtain ⟨c, hc⟩ := open_cpuL hf
  refine ⟨c, ?_⟩
  have : cs.toList = (cells c).toList := hc
  rw [Array.toList_inj.1 this]
end
end Go.Proofs.YtilphdfobflbiaaGreat
