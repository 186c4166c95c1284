/-
  A scene among a law's arguments, opened, with how many answers there can be.
-/
import Derived.SizedLaws
import Derived.Test.YtilphdfobflbiabZx
namespace Go.Proofs.Ytilphdfobflbiab
open Go.ChangeShapes Go.WideShapes Go.ChangeAt Go.RowKit Go.Maps Go.Deep Cp Ip Mm
set_option linter.unusedSimpArgs false
theorem bytesU : Try.prog.bytesOf 22 = 4 := by kernel_rfl
section
variable {H : Type} {enc : TypeId × Value → H} {W : World}
theorem open_ans2 {fuel : Nat} {cs : List Value} {x : DataW H × List MemPlace} (h : DataW.trod enc Try.prog W 0 (fun _ => true) true fuel 26 cs = some x) : ∃ v zs, cs = [v] ∧ AnsAt W v zs ∧ zs.length ≤ maxLen ∧ (zs = [] ∨ ∃ m, m ∈ DataW.weights Try.prog 26 x.1 ∧ zs.length * 4 ≤ m) := by
  rcases open_slice Try.underlying26 h with ⟨h0, _⟩ | ⟨a, len, cap, m, n, D, Pl, h0, hb, hl, hm, hmm, hX, hx⟩
  · exact ⟨_, [], h0, ⟨none, 0, rfl, Nat.le_refl _, fun i hi => by simp at hi⟩, by simp, .inl rfl⟩
  · simp only [if_true] at hmm
    subst hmm
    have each : ∀ i, i < len → ∃ z : BitVec 32, W.cell? (a.add i) = some (.int .u32 (z.toNat : Int)) := by
      intro i hi
      obtain ⟨cs', h1, h2⟩ := hx i (by omega)
      rw [cellsOU, Nat.mul_one] at h1
      obtain ⟨_, hlen, hcell⟩ := World.cells?_some h1
      obtain ⟨z, rfl⟩ := open_u32 h2
      have := hcell 0 (by omega)
      refine ⟨z, ?_⟩
      have e : (a.add i).add 0 = a.add i := by unfold Addr.add; simp
      rw [e] at this
      simpa using this
    obtain ⟨f, hf⟩ := choose_lt each
    refine ⟨_, (List.range len).map f, h0, ⟨some a, m, by simp, by simpa using hl, fun i hi => ?_⟩, by simp; omega, .inr ⟨(len + (m - len)) * 4, ?_, by simp; omega⟩⟩
    rotate_left 1
    · rw [hX]
      simp [DataW.weights, Try.underlying26, bytesU]
    have hi' : i < len := by simpa using hi
    have hc := hf i hi'
    have h00 := hf 0 (by omega)
    have hsp : a.spot = none := by
      have := spot4 h00
      unfold Addr.add at this
      simpa using this
    rw [add4 a i hsp] at hc
    refine ⟨a.block, a.off, ?_, by simpa using hc⟩
    obtain ⟨b, o, s⟩ := a
    simp only at hsp
    subst hsp; rfl
set_option maxRecDepth 100000 in
theorem open_world2 {b0 : Nat} {v : Value} {d : DataW H} {p : List MemPlace} (hv : Value.okWide Try.prog W .any b0 28 v) (h : DataW.Trod enc Try.prog W 0 (fun _ => true) true 28 v d p) : ∃ V : Scene, SceneOk W V ∧ v = .agg (wcells V) ∧ (V.zs = [] ∨ ∃ m, m ∈ DataW.weights Try.prog 28 d ∧ V.zs.length * 4 ≤ m) := by
  obtain ⟨cs, rfl, hsz⟩ := okWide_struct Try.underlying28 hv
  obtain ⟨fuel, hf⟩ := h
  obtain ⟨xs, n, _, hX, hl, hlen, hg⟩ := DataW.trod_struct Try.underlying28 hf
  rw [cellsOS] at hl
  have h0 := hg 0 _ rfl
  have h1 := hg 1 _ rfl
  have h2 := hg 2 _ rfl
  have h3 := hg 3 _ rfl
  have h4 := hg 4 _ rfl
  have h5 := hg 5 _ rfl
  have h6 := hg 6 _ rfl
  clear hg
  match xs, hlen with
  | [y0, y1, y2, y3, y4, y5, y6], _ =>
    simp [cellsOU, cellsOC, cellsO1, cellsO2, cellsO3] at h0 h1 h2 h3 h4 h5 h6
    obtain ⟨c, hc⟩ := open_cpuL h0
    obtain ⟨a, ha⟩ := open_u32 h1
    obtain ⟨b, hb⟩ := open_u32 h2
    obtain ⟨s, hs, _, ws⟩ := DataW.trod_string Try.underlying9 h3
    obtain ⟨t, ht, _, wt⟩ := DataW.trod_string Try.underlying9 h4
    obtain ⟨u, zs, hu, hz, hzl, hzw⟩ := open_ans2 h5
    obtain ⟨q, hq, _, wq⟩ := DataW.trod_int Try.underlying3 h6
    have bq := bounds_i64 wq
    refine ⟨⟨c, a, b, s, t, u, zs, q⟩, ⟨hz, ws, wt, hzl, bq.1, bq.2⟩, ?_, ?_⟩
    rotate_left 1
    · rcases hzw with hzw | ⟨m, hm, hle⟩
      · exact .inl hzw
      · refine .inr ⟨m, ?_, hle⟩
        simp only [Prod.mk.injEq] at hX
        rw [hX.1]
        simp [DataW.weights, Try.underlying28, DataW.weightsEach, hm]
    have e6 : cs.toList.drop 39 = [] := List.drop_eq_nil_of_le (by rw [show cs.toList.length = 39 from hl]; exact Nat.le_refl _)
    have e : cs.toList = (cells c).toList ++ [.int .u32 (a.toNat : Int), .int .u32 (b.toNat : Int), .string s, .string t, u, .int .i64 q] := by
      rw [← List.take_append_drop 33 cs.toList, show cs.toList.take 33 = (cells c).toList from hc, split_one (l := cs.toList) ha, split_one (l := cs.toList) hb, split_one (l := cs.toList) hs, split_one (l := cs.toList) ht, split_one (l := cs.toList) hu, split_one (l := cs.toList) hq, e6]
    have e' : cs = ((cells c).toList ++ [.int .u32 (a.toNat : Int), .int .u32 (b.toNat : Int), .string s, .string t, u, .int .i64 q]).toArray := by rw [← e]
    rw [e']; rfl
end
end Go.Proofs.Ytilphdfobflbiab
