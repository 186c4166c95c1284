/-
  A slice of words among a law's arguments: opened.
-/
import Derived.Test.YtkfomhllaogplaaEU
import Derived.Test.YtkfomhllaogplaaGB
namespace Go.Proofs.Ytkfomhllaogplaa
open Go.ChangeShapes Go.WideShapes Go.ChangeAt Go.RowKit Go.Deep El
set_option linter.unusedSimpArgs false

section
variable {H : Type} {enc : TypeId × Value → H} {W : World}
set_option maxRecDepth 100000 in
theorem open_word1 {base : Nat} {spare : Nat → Bool} {held : Bool} {fuel : Nat} {cs : List Value} {x : DataW H × List MemPlace} (h : DataW.trod enc Try.prog W base spare held fuel 22 cs = some x) : ∃ z : BitVec 32, cs = [.int .u32 (z.toNat : Int)] := by
  obtain ⟨a, e, _, hw⟩ := DataW.trod_int Try.underlying22 h
  obtain ⟨z, rfl⟩ := u32_of a hw
  exact ⟨z, e⟩
set_option maxRecDepth 100000 in
theorem open_words {v : Value} {d : DataW H} {p : List MemPlace} (hv : Value.okWide Try.prog W .any 0 27 v) (h : DataW.Trod enc Try.prog W 0 (fun _ => true) true 27 v d p) :
    ∃ l : List Nat, SlW W v l ∧ ∀ n ∈ l, n < 4294967296 := by
  obtain ⟨p0, l0, c0, rfl⟩ := okWide_slice Try.underlying27 hv
  obtain ⟨fuel, hf⟩ := h
  rcases open_slice Try.underlying27 hf with ⟨h0, _⟩ | ⟨a, len, cap, m, n, D, Pl, h0, hb, hl, hm, hmm, _, hx⟩
  · simp [Value.cells] at h0
    obtain ⟨rfl, rfl, rfl⟩ := h0
    exact ⟨[], .inl ⟨_, _, rfl, rfl⟩, fun n hn => by simp at hn⟩
  · simp [Value.cells] at h0
    obtain ⟨rfl, rfl, rfl⟩ := h0
    simp only [if_true] at hmm
    subst hmm
    have each : ∀ i, i < l0 → ∃ z : BitVec 32, W.cell? (a.add i) = some (.int .u32 (z.toNat : Int)) := by
      intro i hi
      obtain ⟨cs', h1, h2⟩ := hx i (by omega)
      rw [cellsEU, Nat.mul_one] at h1
      obtain ⟨_, hlen, hcell⟩ := World.cells?_some h1
      obtain ⟨z, rfl⟩ := open_word1 h2
      have := hcell 0 (by omega)
      refine ⟨z, ?_⟩
      have e : (a.add i).add 0 = a.add i := by unfold Addr.add; simp
      rw [e] at this
      simpa using this
    obtain ⟨f, hf⟩ := choose_lt each
    refine ⟨(List.range l0).map (fun i => (f i).toNat), ?_, fun n hn => ?_⟩
    · by_cases hz : l0 = 0
      · subst hz; exact .inl ⟨_, _, rfl, rfl⟩
      · have c0 := hf 0 (by omega)
        rw [show a.add 0 = a by unfold Addr.add; simp] at c0
        have hsp : a.spot = none := spotE (w := W) (a := a) c0
        have hlt : a.block < W.heap.size := ltE (w := W) (a := a) c0
        obtain ⟨b, o, s⟩ := a
        simp only at hsp hlt
        subst hsp
        refine .inr ⟨b, o, m, by simp, by simpa using hl, hlt, fun j n hj => ?_⟩
        rw [List.getElem?_map] at hj
        cases e : (List.range l0)[j]? with
        | none => rw [e] at hj; cases hj
        | some i =>
          rw [e] at hj
          simp only [Option.map_some, Option.some.injEq] at hj
          obtain ⟨hi, hij⟩ := List.getElem?_eq_some_iff.1 e
          simp at hij hi
          subst hij hj
          have := hf j hi
          rw [show (⟨b, o, none⟩ : Addr).add j = ⟨b, o + j, none⟩ by unfold Addr.add; split <;> simp_all] at this
          exact this
    · obtain ⟨i, hi, rfl⟩ := List.mem_map.1 hn
      exact (f i).isLt
end
end Go.Proofs.Ytkfomhllaogplaa
