/-
  What the laws of layer 6 stand on: a program that was cut, in its box.
-/
import Derived.Test.YtkfomhllaogplaaET
namespace Go.Proofs.Ytkfomhllaogplaa
open Go.RowKit El Go.Lib
open Classical
set_option linter.unusedSimpArgs false

/-- The law's program, in its box. -/
structure LX (w : World) (X : Prg) (v : Value) (W : World) : Prop where
  box : W.heap[w.heap.size]? = some (.cells #[.int .u32 (X.entry.toNat : Int), .int .u32 (X.flags.toNat : Int), v] 25 (0, 0))
  s : SlS W v X.segs
  low : Below w.heap.size w W
theorem LX.below {w W W' : World} {X : Prg} {v : Value} (h : LX w X v W) (hb : Below W.heap.size W W') : LX w X v W' := ⟨keptN hb h.box, h.s.below hb, h.low.trans (hb.mono h.low.size)⟩
theorem LX.alloc {w W : World} {X : Prg} {v : Value} (h : LX w X v W) (o : Obj) : LX w X v (W.alloc o) := h.below ((Below.refl _ W).alloc (Nat.le_refl _) o)
theorem LX.put {w W : World} {X : Prg} {v : Value} {cs : Array Value} {B : Nat} (hb : W.heap[w.heap.size]? = some (.cells cs 25 (0, 0))) (ho : W.ownsRow B 42 4 v X.segs.length (csS X.segs)) (hB : w.heap.size < B) (hl : Below w.heap.size w W) :
    LX w X v (W.setRow w.heap.size #[.int .u32 (X.entry.toNat : Int), .int .u32 (X.flags.toNat : Int), v]) :=
  ⟨setRow_heap _ _ _ _ _ _ hb, sls_of_owns (own_other ho (fun g hg => setRow_other _ _ _ _ (by omega))), below_setRowE hl (Nat.le_refl _) _⟩
theorem cut_fits {x : Prg} (h : ∀ g ∈ x.segs, Fits g) : ∀ g ∈ (cutP x).segs, Fits g := fun g hg => by
  obtain ⟨y, hy, rfl⟩ := List.mem_map.1 hg
  exact h y (List.mem_of_mem_take hy)
theorem datas_bound (l : List Seg) (K : Nat) (h : ∀ g ∈ l, g.data.length ≤ K) : (datas l).length ≤ l.length * K := by
  induction l with
  | nil => simp [datas]
  | cons a r ih =>
    have := ih (fun g hg => h g (List.mem_cons_of_mem _ hg))
    have h1 := h a List.mem_cons_self
    rw [datas_cons, List.length_append, List.length_cons, Nat.succ_mul]; omega
theorem cut_data (x : Prg) : (cutP x).segs.length ≤ 18 ∧ (datas (cutP x).segs).length ≤ 3600 := by
  have h1 : (cutP x).segs.length ≤ 18 := by simp only [cutP, List.length_map, List.length_take]; omega
  refine ⟨h1, ?_⟩
  have := datas_bound (cutP x).segs 200 (fun g hg => by
    obtain ⟨y, _, rfl⟩ := List.mem_map.1 hg
    simp only [cutS, List.length_take]; omega)
  omega
theorem wr_small {X : Prg} (h1 : X.segs.length ≤ 18) (h2 : (datas X.segs).length ≤ 3600) : (El.wr X).length ≤ 5000 := by rw [wr_len]; omega
theorem same_self (X : Prg) (a b : Value) (hl : X.segs.length ≤ 1000000) (w : World) (hSa : SlS w a X.segs) (hSb : SlS w b X.segs) :
    Calls Try.prog 18 #[prgV X a, prgV X b] w fun e w' => e = .returned (.bool true) ∧ Below w.heap.size w w' := by
  have := same_any X X a b hl w hSa hSb
  rwa [decide_eq_true rfl] at this
/-- The law's program and another one, in their boxes. -/
structure TwoB (w : World) (b : Nat) (X Y : Prg) (v u : Value) (W : World) : Prop where
  x : LX w X v W
  y : W.heap[b]? = some (.cells #[.int .u32 (Y.entry.toNat : Int), .int .u32 (Y.flags.toNat : Int), u] 25 (0, 0))
  s : SlS W u Y.segs
theorem TwoB.below {w W W' : World} {b : Nat} {X Y : Prg} {v u : Value} (h : TwoB w b X Y v u W) (hb : Below W.heap.size W W') : TwoB w b X Y v u W' := ⟨h.x.below hb, keptN hb h.y, h.s.below hb⟩
end Go.Proofs.Ytkfomhllaogplaa
