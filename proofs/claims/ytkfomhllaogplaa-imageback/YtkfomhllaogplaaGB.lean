/-
  Contracts of package image: ofWords, textOf, At; a slice of words.
-/
import Derived.Test.YtkfomhllaogplaaGA
import Derived.Test.YtkfomhllaogplaaED
namespace Go.Proofs.Ytkfomhllaogplaa
open Go.RowKit El Go.Lib
open Classical
set_option linter.unusedSimpArgs false

/-- A slice of words. -/
def SlW (W : World) (v : Value) (l : List Nat) : Prop :=
  (∃ p c, v = .slice p 0 c ∧ l = []) ∨ ∃ g o cap, v = .slice (some ⟨g, o, none⟩) l.length cap ∧ l.length ≤ cap ∧ g < W.heap.size ∧ ∀ (j n : Nat), l[j]? = some n → W.cell? ⟨g, o + j, none⟩ = some (.int .u32 (n : Int))
theorem SlW.belowB {B : Nat} {W W' : World} {v : Value} {l : List Nat} (h : SlW W v l) (hb : Below B W W') (hB : W.heap.size ≤ B) : SlW W' v l := by
  rcases h with h | ⟨g, o, cap, rfl, hl, hg, hc⟩
  · exact .inl h
  · exact .inr ⟨g, o, cap, rfl, hl, Nat.lt_of_lt_of_le hg hb.size, fun j n hj => by rw [hb.cell (by exact Nat.lt_of_lt_of_le hg hB)]; exact hc j n hj⟩
theorem SlW.below {W W' : World} {v : Value} {l : List Nat} (h : SlW W v l) (hb : Below W.heap.size W W') : SlW W' v l := h.belowB hb (Nat.le_refl _)
theorem SlW.alloc {W : World} {v : Value} {l : List Nat} (h : SlW W v l) (o : Obj) : SlW (W.alloc o) v l := h.below ((Below.refl _ W).alloc (Nat.le_refl _) o)
theorem SlW.len {W : World} {v : Value} {l : List Nat} (h : SlW W v l) : ∃ p c, v = .slice p l.length c ∧ (0 < l.length → l.length ≤ c) := by
  rcases h with ⟨p, c, rfl, rfl⟩ | ⟨g, o, cap, rfl, hl, _⟩
  · exact ⟨_, _, rfl, fun h => by simp at h⟩
  · exact ⟨_, _, rfl, fun _ => hl⟩
def imgV (i : Img) (v : Value) : Value := .agg #[.int .u32 (i.base.toNat : Int), .int .u32 (i.entry.toNat : Int), v, .int .i64 (i.seg : Int)]
theorem and_1 (f : Int) (h0 : 0 ≤ f) (h1 : f ≤ 7) : bits .and .i64 f 1 = f % 2 := by
  have h : f = 0 ∨ f = 1 ∨ f = 2 ∨ f = 3 ∨ f = 4 ∨ f = 5 ∨ f = 6 ∨ f = 7 := by omega
  rcases h with rfl | rfl | rfl | rfl | rfl | rfl | rfl | rfl <;> decide +kernel
theorem and_2 (f : Int) (h0 : 0 ≤ f) (h1 : f ≤ 7) : bits .and .i64 f 2 = f / 2 % 2 * 2 := by
  have h : f = 0 ∨ f = 1 ∨ f = 2 ∨ f = 3 ∨ f = 4 ∨ f = 5 ∨ f = 6 ∨ f = 7 := by omega
  rcases h with rfl | rfl | rfl | rfl | rfl | rfl | rfl | rfl <;> decide +kernel
set_option maxHeartbeats 2000000 in
theorem ofWords_any (g : Seg) (hm : g.may) (w : World) :
    Calls Try.prog 46 #[segV g] w fun e w' => e = .returned (.bool (ofW g)) ∧ Below w.heap.size w w' := by
  have hm' := hm
  obtain ⟨m1, m2, m3, m4, m5, m6⟩ := hm'
  cases g with
  | mk a d n f =>
  simp only at m1 m2 m3 m4 m5 m6
  simp only [segV]
  have hb0 : Below w.heap.size w (w.alloc (.cells #[.int .u32 (a.toNat : Int), .string ⟨d.toArray⟩, .int .i64 n, .int .i64 f] 42)) := (Below.refl _ w).alloc (Nat.le_refl _) _
  have h2 := and_2 f m4 m5
  by_cases a1 : f / 2 % 2 = 0
  · rw [a1] at h2
    by_cases a2 : (a.toNat : Int) % 4 = 0
    · by_cases a3 : (d.length : Int) % 4 = 0
      · by_cases a4 : 0 < (d.length : Int)
        · have hd : Hid (decide (n = (d.length : Int)) = ofW ⟨a, d, n, f⟩) := by
            unfold ofW
            exact decide_eq_decide.2 ⟨fun h => ⟨a1, by simp only; omega, by simp only; omega, by simp only; omega, h⟩, fun h => h.2.2.2.2⟩
          go_enter Try.func46, Try.ntmps46
          go_wp2
          go_ret
          exact ⟨retb hd.out, hb0⟩
        · have hd : Hid (ofW ⟨a, d, n, f⟩ = false) := by unfold ofW; exact decide_eq_false fun h => a4 (by have := h.2.2.2.1; simp only at this; omega)
          go_enter Try.func46, Try.ntmps46
          go_wp2
          go_ret
          exact ⟨retb hd.out.symm, hb0⟩
      · have hd : Hid (ofW ⟨a, d, n, f⟩ = false) := by unfold ofW; exact decide_eq_false fun h => a3 (by have := h.2.2.1; simp only at this; omega)
        go_enter Try.func46, Try.ntmps46
        go_wp2
        go_ret
        exact ⟨retb hd.out.symm, hb0⟩
    · have hd : Hid (ofW ⟨a, d, n, f⟩ = false) := by unfold ofW; exact decide_eq_false fun h => a2 (by have := h.2.1; simp only at this; omega)
      go_enter Try.func46, Try.ntmps46
      go_wp2
      go_ret
      exact ⟨retb hd.out.symm, hb0⟩
  · have hd : Hid (ofW ⟨a, d, n, f⟩ = false) := by unfold ofW; exact decide_eq_false fun h => a1 h.1
    rw [show f / 2 % 2 = 1 by omega] at h2
    go_enter Try.func46, Try.ntmps46
    go_wp2
    go_ret
    exact ⟨retb hd.out.symm, hb0⟩
end Go.Proofs.Ytkfomhllaogplaa
