/-
  Contracts of the document's answer for layer 2 (forms, spans, plain kinds): each comes to the same plain function as the program's own.
  Contract of the document's Right: it comes to the same plain function as the program's own.
-/

import Derived.Test.YtcffpmicencfpabZd
namespace Go.Proofs.Ytcffpmicencfpab
open Go.RowKit Ip

/-- The text of the forms' letters. -/
def formText : ByteArray := ⟨#[85, 85, 74, 73, 66, 66, 66, 66, 66, 66, 73, 73, 73, 73, 73, 83, 83, 83, 73, 73, 73, 73, 73, 73, 72, 72, 72, 82, 82, 82, 82, 82, 82, 82, 82, 82, 82, 82, 82, 82, 82, 82, 82, 82, 82, 69, 69]⟩
theorem formText_size : formText.size = 47 := rfl
theorem formText_at (k : Nat) (h : k < 47) (w : World) : (Instr.index 9 (.string formText) (.int .i64 (k : Int))).run Try.prog w = .ok (.int .u8 (kf k : Int)) w := by
  revert k
  refine cases47 ?_ ?_ ?_ ?_ ?_ ?_ ?_ ?_ ?_ ?_ ?_ ?_ ?_ ?_ ?_ ?_ ?_ ?_ ?_ ?_ ?_ ?_ ?_ ?_ ?_ ?_ ?_ ?_ ?_ ?_ ?_ ?_ ?_ ?_ ?_ ?_ ?_ ?_ ?_ ?_ ?_ ?_ ?_ ?_ ?_ ?_ ?_
  all_goals kernel_rfl
/-- Does a byte stand in a text? -/
def inS (c : Int) (l : List UInt8) : Bool := l.any fun b => (b.toNat : Int) == c
theorem inS_snoc (c : Int) (s : ByteArray) (k : Nat) (h : k < s.size) : inS c (s.data.toList.take (k + 1)) = (inS c (s.data.toList.take k) || ((s[k].toNat : Int) == c)) := by
  have e : s.data.toList.take (k + 1) = s.data.toList.take k ++ [s[k]] := by
    rw [List.take_succ_eq_append_getElem (by simpa using h)]; rfl
  rw [e]; unfold inS; rw [List.any_append]; simp
theorem inS_some (c : Int) (s : ByteArray) (k : Nat) (h : k < s.size) (he : ((s[k].toNat : Int) == c) = true) : inS c s.data.toList = true := by
  unfold inS
  rw [List.any_eq_true]
  exact ⟨s[k], Array.getElem_mem_toList _, he⟩
def inB (c : Int) (s : ByteArray) : Bool := inS c s.data.toList
def hSg (f : Nat) : Bool := decide (f = 74 ∨ f = 73 ∨ f = 83 ∨ f = 66)
theorem inB_Rd (f : Nat) (h : is8 f) : inB f ⟨#[85, 74, 73, 72, 82]⟩ = hRd f := by
  rcases h with rfl | rfl | rfl | rfl | rfl | rfl | rfl | rfl <;> rfl
theorem inB_Rs1 (f : Nat) (h : is8 f) : inB f ⟨#[73, 72, 66, 83, 82]⟩ = hRs1 f := by
  rcases h with rfl | rfl | rfl | rfl | rfl | rfl | rfl | rfl <;> rfl
theorem inB_Rs2 (f : Nat) (h : is8 f) : inB f ⟨#[66, 83, 82]⟩ = hRs2 f := by
  rcases h with rfl | rfl | rfl | rfl | rfl | rfl | rfl | rfl <;> rfl
theorem inB_Sg (f : Nat) (h : is8 f) : inB f ⟨#[74, 73, 83, 66]⟩ = hSg f := by
  rcases h with rfl | rfl | rfl | rfl | rfl | rfl | rfl | rfl <;> rfl
end Go.Proofs.Ytcffpmicencfpab
namespace Go.Proofs.Ytcffpmicencfpab
open Go.RowKit Ip

end Go.Proofs.Ytcffpmicencfpab
