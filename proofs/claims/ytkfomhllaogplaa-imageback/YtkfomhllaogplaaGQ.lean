/-
  Layer 7's fixed calls: the program of one word, what its calls answer.
-/
import Derived.Test.YtkfomhllaogplaaGJ
import Derived.Test.YtkfomhllaogplaaGL
import Derived.Test.YtkfomhllaogplaaGK
import Derived.Test.YtkfomhllaogplaaMF
namespace Go.Proofs.Ytkfomhllaogplaa
open Go.RowKit El Go.Lib
open Classical
set_option linter.unusedSimpArgs false
set_option linter.unusedVariables false

def g0 : Seg := ⟨(BitVec.ofNat 32 8192), [], 4, 6⟩
def g1 : Seg := ⟨(BitVec.ofNat 32 4096), [19, 0, 0, 0], 4, 5⟩
def g1' : Seg := ⟨(BitVec.ofNat 32 4096), [115, 0, 0, 0], 4, 5⟩
def p7 : Prg := ⟨(BitVec.ofNat 32 4096), (BitVec.ofNat 32 0), [g0, g1]⟩
def p7' : Prg := ⟨(BitVec.ofNat 32 4096), (BitVec.ofNat 32 0), [g0, g1']⟩
def far7 : Prg := ⟨(BitVec.ofNat 32 4100), (BitVec.ofNat 32 0), [g0, g1]⟩
def i7 : Img := ⟨(BitVec.ofNat 32 4096), (BitVec.ofNat 32 4096), [19], 1⟩
theorem p7_fits : ∀ g ∈ [g0, g1], Fits g := fun g hg => by
  simp at hg
  rcases hg with rfl | rfl <;> exact ⟨by decide, by decide⟩
theorem p7_data : ∀ g ∈ [g0, g1], g.data.length ≤ 65536 := fun g hg => by
  simp at hg
  rcases hg with rfl | rfl <;> decide
theorem p7_data' : ∀ g ∈ [g0, g1], g.data.length ≤ 4000000 := fun g hg => Nat.le_trans (p7_data g hg) (by decide)
theorem p7_chk : chk [g0, g1] = 0 := by
  refine chk_ok (by decide) (fun g hg => ?_) (fun ⟨i, j, g, h, hij, hi, hj, hn⟩ => ?_)
  · simp at hg
    rcases hg with rfl | rfl <;> exact ⟨by decide, by decide, by decide, by decide, by decide, by decide⟩
  · have h1 := (List.getElem?_eq_some_iff.1 hi).1
    have h1 : i < 2 := h1
    obtain rfl : i = 1 := by omega
    obtain rfl : j = 0 := by omega
    simp at hi hj
    subst hi hj
    exact hn (by unfold Seg.apart; decide)
theorem p7_text : isText [g0, g1] = true ∧ txt [g0, g1] = 1 := text_of (k := 1) (g := g1) rfl (by decide) (fun j h hj hh => by
    match j, hj with
    | 0, hj => simp at hj; subst hj; revert hh; decide
    | 1, _ => rfl) (by unfold ofW; decide)
theorem p7_words : words g1.data = [19] := by rfl
theorem p7_of : ofE p7 = 0 ∧ imgOf p7 = i7 := by
  have h := of_0 (x := p7) (g := g1) p7_chk p7_text.1 (by rw [show p7.segs = [g0, g1] from rfl, p7_text.2]; rfl) (by unfold entryIn; decide)
  refine ⟨h.1, ?_⟩
  rw [h.2, show p7.segs = [g0, g1] from rfl, p7_text.2]; rfl
theorem far7_of : ofE far7 = 71 ∧ imgOf far7 = noImg := by
  have h := of_71 (x := far7) (g := g1) p7_chk p7_text.1 (by rw [show far7.segs = [g0, g1] from rfl, p7_text.2]; rfl) (by unfold entryIn; decide)
  exact ⟨h, of_not (by rw [h]; decide)⟩
theorem nil_of : ofE noPrg = 70 ∧ imgOf noPrg = noImg := by
  have hc : chk noPrg.segs = 0 := chk_ok (by decide) (fun g hg => by simp [noPrg] at hg) (fun ⟨i, j, g, h, _, hi, _⟩ => by simp [noPrg] at hi)
  have h := of_70 (x := noPrg) hc (notText (l := []) (by simp [cnt, cntR])).1
  exact ⟨h, of_not (by rw [h]; decide)⟩
theorem p7_with : wE p7 1 = 0 ∧ wV p7 [115] = p7' := by
  have h := w_zero (x := p7) (l := [115]) p7_of.1 (by rw [p7_of.2]; rfl)
  refine ⟨h.1, ?_⟩
  rw [h.2]
  unfold putW
  rw [show p7.segs = [g0, g1] from rfl, p7_text.2]; rfl
theorem p7_with0 : wE p7 0 = 1 ∧ wV p7 [] = noPrg := w_arg (x := p7) (l := []) p7_of.1 (by rw [p7_of.2]; decide)
theorem i7_at : atB i7 (BitVec.ofNat 32 4096) = true ∧ atW i7 (BitVec.ofNat 32 4096) = 19 := by
  have h : atB i7 (BitVec.ofNat 32 4096) = true := by unfold atB; decide
  exact ⟨h, by unfold atW; rw [if_pos h]; rfl⟩
theorem i7_no : atB i7 (BitVec.ofNat 32 4100) = false ∧ atW i7 (BitVec.ofNat 32 4100) = 0 := by
  have h : atB i7 (BitVec.ofNat 32 4100) = false := by unfold atB; decide
  exact ⟨h, at_no h⟩
theorem i7_ok : i7.ok := ⟨by decide, by decide, by decide, by decide⟩
theorem p7_mem : memOf [g0, g1] = [(4096, 19)] := by
  show Mm.puts (Mm.puts [] (g0.addr.toNat : Int) g0.data g0.data.length) (g1.addr.toNat : Int) g1.data g1.data.length = _
  decide +kernel
theorem one7_any (w : World) : Calls Try.prog 31 #[] w fun e w' => ∃ p c, e = .returned (.agg #[.int .u32 4096, .int .u32 0, .slice p 2 c]) ∧ SlS w' (.slice p 2 c) [g0, g1] ∧ Below w.heap.size w w' := by
  go_enter Try.func31, Try.ntmps31
  go_wp2_with fail
  have h2 : ((w.alloc (.cells #[.int .u32 4096, .int .u32 0, .slice (some ⟨w.heap.size + 1, 0, none⟩) 2 2] 25)).alloc (.cells #[.int .u32 8192, .string ⟨#[]⟩, .int .i64 4, .int .i64 6, .int .u32 4096, .string ⟨#[19, 0, 0, 0]⟩, .int .i64 4, .int .i64 5] 42)).heap[w.heap.size + 1]? = some (.cells #[.int .u32 8192, .string ⟨#[]⟩, .int .i64 4, .int .i64 6, .int .u32 4096, .string ⟨#[19, 0, 0, 0]⟩, .int .i64 4, .int .i64 5] 42 (0, 0)) := by
    have := heap_alloc_new (w.alloc (.cells #[.int .u32 4096, .int .u32 0, .slice (some ⟨w.heap.size + 1, 0, none⟩) 2 2] 25)) (.cells #[.int .u32 8192, .string ⟨#[]⟩, .int .i64 4, .int .i64 6, .int .u32 4096, .string ⟨#[19, 0, 0, 0]⟩, .int .i64 4, .int .i64 5] 42)
    simpa using this
  refine bodyPost_ret (v := .agg #[.int .u32 4096, .int .u32 0, .slice (some ⟨w.heap.size + 1, 0, none⟩) 2 2]) (results_cell_row (p := 0) (by kernel_rfl) _ _ w.heap.size _ _ _ _ rfl (by rw [Below.heap_alloc _ _ _ (by simp)]; exact heap_alloc_new w _) Try.underlying25 rfl (by kernel_rfl)) rfl ⟨_, _, rfl, .inr ⟨w.heap.size + 1, 0, 2, rfl, by decide, by simp, fun j hj => ?_⟩, ((Below.refl _ w).alloc (Nat.le_refl _) _).alloc (by simp) _⟩
  rw [Lib.cell_of_heap h2]
  have hj : j < 8 := hj
  rcases (by omega : j = 0 ∨ j = 1 ∨ j = 2 ∨ j = 3 ∨ j = 4 ∨ j = 5 ∨ j = 6 ∨ j = 7) with rfl | rfl | rfl | rfl | rfl | rfl | rfl | rfl <;> rfl
theorem of7_any (p : Option Addr) (c : Nat) (w : World) (hS : SlS w (.slice p 2 c) [g0, g1]) :
    Calls Try.prog 12 #[.agg #[.int .u32 4096, .int .u32 0, .slice p 2 c]] w fun e w' => ∃ p' c', e = .returned (.tuple #[.agg #[.int .u32 4096, .int .u32 4096, .slice p' 1 c', .int .i64 1], .int .i64 0]) ∧ SlW w' (.slice p' 1 c') [19] ∧ Below w.heap.size w w' := by
  refine (of_any p7 (.slice p 2 c) p7_fits p7_data' w hS).mono ?_
  rintro e w' ⟨u, rfl, ho, hb⟩
  rw [p7_of.2] at ho
  rw [p7_of.2, p7_of.1]
  obtain ⟨p', c', rfl⟩ := own_slice' ho
  exact ⟨p', c', rfl, slw_of_owns ho, hb⟩
theorem far7_any (p : Option Addr) (c : Nat) (w : World) (hS : SlS w (.slice p 2 c) [g0, g1]) :
    Calls Try.prog 12 #[.agg #[.int .u32 4100, .int .u32 0, .slice p 2 c]] w fun e w' => ∃ v, e = .returned (.tuple #[v, .int .i64 71]) ∧ (∃ p' c', v = .agg #[.int .u32 0, .int .u32 0, .slice p' 0 c', .int .i64 0]) ∧ Below w.heap.size w w' := by
  refine (of_any far7 (.slice p 2 c) p7_fits p7_data' w hS).mono ?_
  rintro e w' ⟨u, rfl, ho, hb⟩
  rw [far7_of.2] at ho
  rw [far7_of.2, far7_of.1]
  obtain ⟨p', c', rfl⟩ := own_slice' ho
  exact ⟨_, rfl, ⟨p', c', rfl⟩, hb⟩
theorem nil7_any (w : World) :
    Calls Try.prog 12 #[.agg #[.int .u32 0, .int .u32 0, .slice none 0 0]] w fun e w' => ∃ v, e = .returned (.tuple #[v, .int .i64 70]) ∧ (∃ p' c', v = .agg #[.int .u32 0, .int .u32 0, .slice p' 0 c', .int .i64 0]) ∧ Below w.heap.size w w' := by
  refine (of_any noPrg (.slice none 0 0) (fun g hg => by simp [noPrg] at hg) (fun g hg => by simp [noPrg] at hg) w (.inl ⟨_, _, rfl, rfl⟩)).mono ?_
  rintro e w' ⟨u, rfl, ho, hb⟩
  rw [nil_of.2] at ho
  rw [nil_of.2, nil_of.1]
  obtain ⟨p', c', rfl⟩ := own_slice' ho
  exact ⟨_, rfl, ⟨p', c', rfl⟩, hb⟩
theorem with7_any (p pl : Option Addr) (c cl : Nat) (w : World) (hS : SlS w (.slice p 2 c) [g0, g1]) (hL : SlW w (.slice pl 1 cl) [115]) :
    Calls Try.prog 16 #[.agg #[.int .u32 4096, .int .u32 0, .slice p 2 c], .slice pl 1 cl] w fun e w' => ∃ p' c', e = .returned (.tuple #[.agg #[.int .u32 4096, .int .u32 0, .slice p' 2 c'], .int .i64 0]) ∧ SlS w' (.slice p' 2 c') [g0, g1'] ∧ Below w.heap.size w w' := by
  refine (with_any p7 (.slice p 2 c) (.slice pl 1 cl) [115] p7_fits p7_data' (by decide) w hS hL).mono ?_
  rintro e w' ⟨u, rfl, ho, hb⟩
  rw [p7_with.2] at ho
  rw [p7_with.2, show ([115] : List Nat).length = 1 from rfl, p7_with.1]
  obtain ⟨p', c', rfl⟩ := own_slice' ho
  exact ⟨p', c', rfl, sls_of_owns ho, hb⟩
theorem with70_any (p : Option Addr) (c : Nat) (w : World) (hS : SlS w (.slice p 2 c) [g0, g1]) :
    Calls Try.prog 16 #[.agg #[.int .u32 4096, .int .u32 0, .slice p 2 c], .slice none 0 0] w fun e w' => ∃ v, e = .returned (.tuple #[v, .int .i64 1]) ∧ (∃ p' c', v = .agg #[.int .u32 0, .int .u32 0, .slice p' 0 c']) ∧ Below w.heap.size w w' := by
  refine (with_any p7 (.slice p 2 c) (.slice none 0 0) [] p7_fits p7_data' (by decide) w hS (.inl ⟨_, _, rfl, rfl⟩)).mono ?_
  rintro e w' ⟨u, rfl, ho, hb⟩
  rw [p7_with0.2] at ho
  rw [p7_with0.2, show ([] : List Nat).length = 0 from rfl, p7_with0.1]
  obtain ⟨p', c', rfl⟩ := own_slice' ho
  exact ⟨_, rfl, ⟨p', c', rfl⟩, hb⟩
theorem at7_any (p : Option Addr) (c : Nat) (w : World) (hS : SlW w (.slice p 1 c) [19]) :
    Calls Try.prog 13 #[.agg #[.int .u32 4096, .int .u32 4096, .slice p 1 c, .int .i64 1], .int .u32 4096] w fun e w' => e = .returned (.tuple #[.int .u32 19, .bool true]) ∧ Below w.heap.size w w' := by
  have := at_any i7 (.slice p 1 c) (BitVec.ofNat 32 4096) i7_ok w hS
  rw [i7_at.1, i7_at.2] at this
  exact this
theorem at7_no (p : Option Addr) (c : Nat) (w : World) (hS : SlW w (.slice p 1 c) [19]) :
    Calls Try.prog 13 #[.agg #[.int .u32 4096, .int .u32 4096, .slice p 1 c, .int .i64 1], .int .u32 4100] w fun e w' => e = .returned (.tuple #[.int .u32 0, .bool false]) ∧ Below w.heap.size w w' := by
  have := at_any i7 (.slice p 1 c) (BitVec.ofNat 32 4100) i7_ok w hS
  rw [i7_no.1, i7_no.2] at this
  exact this
theorem load7_any (p : Option Addr) (c : Nat) (w : World) (hS : SlS w (.slice p 2 c) [g0, g1]) :
    Calls Try.prog 19 #[.agg #[.int .u32 4096, .int .u32 0, .slice p 2 c]] w fun e w' => ∃ pb bm : Nat, e = .returned (.tuple #[.pointer (some ⟨pb, 0, none⟩), .int .i64 0]) ∧ MemAt w' pb bm [(4096, 19)] ∧ w.heap.size ≤ pb ∧ w.heap.size ≤ bm ∧ Below w.heap.size w w' := by
  have := load_ok p7 (.slice p 2 c) p7_fits p7_data p7_chk w hS
  rw [show p7.segs = [g0, g1] from rfl, p7_mem] at this
  exact this
theorem same7_any (p p' : Option Addr) (c c' : Nat) (w : World) (hS : SlW w (.slice p 1 c) [19]) (hS' : SlW w (.slice p' 1 c') [19]) :
    Calls Try.prog 14 #[.agg #[.int .u32 4096, .int .u32 4096, .slice p 1 c, .int .i64 1], .agg #[.int .u32 4096, .int .u32 4096, .slice p' 1 c', .int .i64 1]] w fun e w' => e = .returned (.bool true) ∧ Below w.heap.size w w' := by
  have := rsame_any i7 i7 (.slice p 1 c) (.slice p' 1 c') (by decide) w hS hS'
  rw [decide_eq_true rfl] at this
  exact this
end Go.Proofs.Ytkfomhllaogplaa
