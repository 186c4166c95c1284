/-
  The library's builder; contracts of package elf's putNumber, putWords, putZeros.
-/
import Derived.Test.YtkfomhllaogplaaED
import Derived.Test.YtkfomhllaogplaaShelf
import Derived.Shelf.Strings.BuilderK
namespace Go.Proofs.Ytkfomhllaogplaa
open Go.RowKit El Go.Lib Go.Shelf
open Classical
set_option linter.unusedSimpArgs false

def w167Ren : Go.Shelf.Ren := ⟨fun | 167 => 50 | 240 => 64 | 276 => 69 | n => n, fun | 0 => 0 | 3 => 3 | 4 => 4 | 5 => 5 | 9 => 9 | 20 => 20 | 37 => 58 | 70 => 90 | 72 => 92 | 75 => 94 | 164 => 115 | 80 => 97 | n => n, fun | n => n⟩
theorem w167Lays : Lays.n167 Try.prog w167Ren := {
  mixed := by kernel_rfl
  f167 := Try.func50.trans (congrArg some (by kernel_rfl))
  f240 := Try.func64.trans (congrArg some (by kernel_rfl))
  f276 := Try.func69.trans (congrArg some (by kernel_rfl))
  t0 := Try.underlying0
  a0 := Try.isAgg0
  z0 := Try.sizeOf0
  v0 := Try.zeroValue0
  t4 := Try.underlying4
  a4 := Try.isAgg4
  z4 := Try.sizeOf4
  v4 := Try.zeroValue4
  t5 := Try.underlying5
  a5 := Try.isAgg5
  z5 := Try.sizeOf5
  v5 := Try.zeroValue5
  t9 := Try.underlying9
  a9 := Try.isAgg9
  z9 := Try.sizeOf9
  v9 := Try.zeroValue9
  t20 := Try.underlying20
  a20 := Try.isAgg20
  z20 := Try.sizeOf20
  v20 := Try.zeroValue20
  t37 := Try.underlying58
  a37 := Try.isAgg58
  z37 := Try.sizeOf58
  v37 := Try.zeroValue58
  t70 := Try.underlying90
  a70 := Try.isAgg90
  z70 := Try.sizeOf90
  v70 := Try.zeroValue90
  t72 := Try.underlying92
  a72 := Try.isAgg92
  z72 := Try.sizeOf92
  v72 := Try.zeroValue92
  t75 := Try.underlying94
  a75 := Try.isAgg94
  z75 := Try.sizeOf94
  v75 := Try.zeroValue94
  t164 := Try.underlying115
  a164 := Try.isAgg115
  z164 := Try.sizeOf115
  v164 := Try.zeroValue115 }
theorem w167Extra : Builder.Extra Try.prog w167Ren := {
  sizeBuilder := by kernel_rfl
  liesBuilder := by kernel_rfl
  t5 := Try.underlying5
  a5 := Try.isAgg5
  z5 := Try.sizeOf5
  v5 := Try.zeroValue5
  infoByte := by kernel_rfl
  cellsByte := by kernel_rfl
  sizeByte := by kernel_rfl
  neB5 := by decide }

/-- A builder that holds these bytes. -/
def Bd (b : Nat) (l : List UInt8) (W : World) : Prop := Lib.IsBuilderF 92 5 b b (Lib.byteCells l) W
/-- What is behind a writing: all that is no builder's. -/
structure Kp (b : Nat) (w w' : World) : Prop where
  low : Below b w w'
  others : Lib.OthersKept 5 (some b) w w'
theorem Kp.refl (b : Nat) (w : World) : Kp b w w := ⟨Below.refl _ _, Lib.OthersKept.refl _ _ _⟩
theorem Kp.trans {b : Nat} {w w1 w2 : World} (h : Kp b w w1) (k : Kp b w1 w2) : Kp b w w2 := ⟨h.low.trans k.low, h.others.trans k.others⟩
theorem Kp.alloc {b : Nat} {w w1 : World} (h : Kp b w w1) (hb : b ≤ w1.heap.size) (o : Obj) : Kp b w (w1.alloc o) := ⟨h.low.alloc hb _, h.others.alloc o⟩
theorem Kp.at {b : Nat} {w w' : World} (h : Kp b w w') {k : Nat} {cs : Array Value} {t : TypeId} {f : Nat × Nat} (hk : w.heap[k]? = some (.cells cs t f)) (hb : k ≠ b) (ht : t ≠ 5) : w'.heap[k]? = some (.cells cs t f) :=
  h.others k _ hk (fun e => hb (Option.some.inj e)) (fun c fz e => by injection e with _ e; exact ht e)
theorem Bd.alloc {b : Nat} {l : List UInt8} {W : World} (h : Bd b l W) (o : Obj) : Bd b l (W.alloc o) := Lib.IsBuilderF.alloc h o
theorem Bd.lt {b : Nat} {l : List UInt8} {W : World} (h : Bd b l W) : b < W.heap.size := by rcases h with h | h <;> exact h.lt
theorem bcs_app (a b : List UInt8) : Lib.byteCells (a ++ b) = Lib.byteCells a ++ Lib.byteCells b := by simp [Lib.byteCells]
theorem wbyteE (b : Nat) (l : List UInt8) (c : Int) (x : UInt8) (hc : c = (x.toNat : Int)) (w : World) (h : Bd b l w) (hlen : l.length + 1 ≤ 140737488355328) :
    Calls Try.prog 50 #[.pointer (some ⟨b, 0, none⟩), .int .u8 c] w fun e w' => e = .returned .nilIface ∧ Bd b (l ++ [x]) w' ∧ Kp b w w' := by
  subst hc
  refine (Any.Builder_WriteByte_k w167Lays w167Extra b b (Lib.byteCells l) _ w h (by rw [Lib.byteCells_length]; exact hlen) (Nat.le_of_lt h.lt)).mono ?_
  rintro e w' ⟨rfl, h1, h2, h3⟩
  refine ⟨rfl, ?_, h2, h3⟩
  unfold Bd
  rw [bcs_app]
  exact .inr h1
theorem stringE (b : Nat) (l : List UInt8) (w : World) (h : Bd b l w) :
    Calls Try.prog 51 #[.pointer (some ⟨b, 0, none⟩)] w fun e w' => e = .returned (.string ⟨l.toArray⟩) ∧ Kp b w w' := by
  refine (Any.Builder_String_any_k Try.lays169 Try.Builder_Extra_169 b b l w h (Nat.le_of_lt h.lt)).mono ?_
  rintro e w' ⟨rfl, _, h2, h3⟩
  exact ⟨rfl, h2, h3⟩
/-- A number's bytes, the lowest first. -/
def numB : Nat → Nat → List UInt8
  | 0, _ => []
  | n + 1, v => b1 v :: numB n (v / 256)
theorem numB_two (v : Nat) : numB 2 v = b2 v := rfl
theorem numB_four (v : Nat) : numB 4 v = b4 v := by
  simp only [numB, b4]
  rw [Nat.div_div_eq_div_mul, Nat.div_div_eq_div_mul]
theorem numB_len (n v : Nat) : (numB n v).length = n := by
  induction n generalizing v with
  | zero => rfl
  | succ n ih => rw [numB, List.length_cons, ih]
def wordVs (ws : List Nat) : Array Value := (ws.map fun x : Nat => Value.int .u32 (x : Int)).toArray
end Go.Proofs.Ytkfomhllaogplaa
