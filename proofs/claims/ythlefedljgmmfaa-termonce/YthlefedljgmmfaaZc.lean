/-
  The table of kinds: its call answers the table, in new memory; each of its rows, by its number.
  Contracts of package inst's small functions: what each call answers; what was in memory stays.
  Contracts of package inst's small functions, more: the pieces of a form's number; a kind's word; whether a word is of a kind.
  Contracts of package inst's Form and Plain, and of a form's number out of a word and into one.
  Contract of package inst's find: the kind of a word's instruction.
  Contract of package inst's Decode: the instruction of a word, by its kind.
-/

import Derived.Test.YthlefedljgmmfaaZa
import Derived.Test.YthlefedljgmmfaaZb
namespace Go.Proofs.Ythlefedljgmmfaa
open Go.RowKit Ip
def Zs : Array Value := Array.replicate 188 (.int .u8 0)
def Ks : Array Value := #[.int .u8 85, .int .u8 55, .int .u8 0, .int .u8 0, .int .u8 85, .int .u8 23, .int .u8 0, .int .u8 0, .int .u8 74, .int .u8 111, .int .u8 0, .int .u8 0, .int .u8 73, .int .u8 103, .int .u8 0, .int .u8 0, .int .u8 66, .int .u8 99, .int .u8 0, .int .u8 0, .int .u8 66, .int .u8 99, .int .u8 1, .int .u8 0, .int .u8 66, .int .u8 99, .int .u8 4, .int .u8 0, .int .u8 66, .int .u8 99, .int .u8 5, .int .u8 0, .int .u8 66, .int .u8 99, .int .u8 6, .int .u8 0, .int .u8 66, .int .u8 99, .int .u8 7, .int .u8 0, .int .u8 73, .int .u8 3, .int .u8 0, .int .u8 0, .int .u8 73, .int .u8 3, .int .u8 1, .int .u8 0, .int .u8 73, .int .u8 3, .int .u8 2, .int .u8 0, .int .u8 73, .int .u8 3, .int .u8 4, .int .u8 0, .int .u8 73, .int .u8 3, .int .u8 5, .int .u8 0, .int .u8 83, .int .u8 35, .int .u8 0, .int .u8 0, .int .u8 83, .int .u8 35, .int .u8 1, .int .u8 0, .int .u8 83, .int .u8 35, .int .u8 2, .int .u8 0, .int .u8 73, .int .u8 19, .int .u8 0, .int .u8 0, .int .u8 73, .int .u8 19, .int .u8 2, .int .u8 0, .int .u8 73, .int .u8 19, .int .u8 3, .int .u8 0, .int .u8 73, .int .u8 19, .int .u8 4, .int .u8 0, .int .u8 73, .int .u8 19, .int .u8 6, .int .u8 0, .int .u8 73, .int .u8 19, .int .u8 7, .int .u8 0, .int .u8 72, .int .u8 19, .int .u8 1, .int .u8 0, .int .u8 72, .int .u8 19, .int .u8 5, .int .u8 0, .int .u8 72, .int .u8 19, .int .u8 5, .int .u8 32, .int .u8 82, .int .u8 51, .int .u8 0, .int .u8 0, .int .u8 82, .int .u8 51, .int .u8 0, .int .u8 32, .int .u8 82, .int .u8 51, .int .u8 1, .int .u8 0, .int .u8 82, .int .u8 51, .int .u8 2, .int .u8 0, .int .u8 82, .int .u8 51, .int .u8 3, .int .u8 0, .int .u8 82, .int .u8 51, .int .u8 4, .int .u8 0, .int .u8 82, .int .u8 51, .int .u8 5, .int .u8 0, .int .u8 82, .int .u8 51, .int .u8 5, .int .u8 32, .int .u8 82, .int .u8 51, .int .u8 6, .int .u8 0, .int .u8 82, .int .u8 51, .int .u8 7, .int .u8 0, .int .u8 82, .int .u8 51, .int .u8 0, .int .u8 1, .int .u8 82, .int .u8 51, .int .u8 1, .int .u8 1, .int .u8 82, .int .u8 51, .int .u8 2, .int .u8 1, .int .u8 82, .int .u8 51, .int .u8 3, .int .u8 1, .int .u8 82, .int .u8 51, .int .u8 4, .int .u8 1, .int .u8 82, .int .u8 51, .int .u8 5, .int .u8 1, .int .u8 82, .int .u8 51, .int .u8 6, .int .u8 1, .int .u8 82, .int .u8 51, .int .u8 7, .int .u8 1, .int .u8 69, .int .u8 115, .int .u8 0, .int .u8 0, .int .u8 69, .int .u8 115, .int .u8 0, .int .u8 1]
theorem below_setRow {B : Nat} {a w : World} (h : Below B a w) {g : Nat} (hg : B ≤ g) (cs : Array Value) : Below B a (w.setRow g cs) :=
  h.trans ⟨rfl, rfl, rfl, by simp, fun k hk => setRow_other w g k cs (by omega)⟩
end Go.Proofs.Ythlefedljgmmfaa
namespace Go.Proofs.Ythlefedljgmmfaa
open Go.RowKit Ip

end Go.Proofs.Ythlefedljgmmfaa
namespace Go.Proofs.Ythlefedljgmmfaa
open Go.RowKit Ip

def Ps (f : Nat) : Array Value := ((pcs f).map fun x => Value.int .i64 x).toArray
def Z12 : Array Value := Array.replicate 12 (.int .i64 0)
end Go.Proofs.Ythlefedljgmmfaa
namespace Go.Proofs.Ythlefedljgmmfaa
open Go.RowKit Ip

end Go.Proofs.Ythlefedljgmmfaa
namespace Go.Proofs.Ythlefedljgmmfaa
open Go.RowKit Ip

/-- What the program asks of a word, for a kind. -/
def asks (x : BitVec 32) (k : Nat) : Bool := ((ko k : Int) == ((Wd.field x 0 7).toNat : Int)) && told (kf k) (ko k) (k3 k) (k7 k) x ((Wd.field x 12 3).toNat : Int) ((Wd.field x 25 7).toNat : Int)

def fV (r : Nat) : Int := if r < 47 then (r : Int) else 0
def fB (r : Nat) : Bool := decide (r < 47)
theorem ret_ib {k : IntKind} {a b : Int} {c d : Bool} (h : a = b) (h2 : c = d) : Ending.returned (.tuple #[.int k a, .bool c]) = .returned (.tuple #[.int k b, .bool d]) := by rw [h, h2]
end Go.Proofs.Ythlefedljgmmfaa
namespace Go.Proofs.Ythlefedljgmmfaa
open Go.RowKit Ip

theorem bcell {W w1 : World} (hb : Below W.heap.size W w1) : (∀ b o, b < W.heap.size → w1.cell? ⟨b, o, none⟩ = W.cell? ⟨b, o, none⟩) ∧ (∀ b o, b < W.heap.size → w1.frozen? ⟨b, o, none⟩ = W.frozen? ⟨b, o, none⟩) :=
  ⟨fun b o h => hb.cell (p := ⟨b, o, none⟩) h, fun b o h => hb.frozen (p := ⟨b, o, none⟩) h⟩

end Go.Proofs.Ythlefedljgmmfaa
