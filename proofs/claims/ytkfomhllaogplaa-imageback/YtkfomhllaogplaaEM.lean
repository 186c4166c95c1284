/-
  Contracts of package elf: putHead, putRow, bytesOf, written, Write: a program's file.
-/
import Derived.Test.YtkfomhllaogplaaEL
import Derived.Test.YtkfomhllaogplaaEE
namespace Go.Proofs.Ytkfomhllaogplaa
open Go.RowKit El Go.Lib
open Classical
set_option linter.unusedSimpArgs false

theorem head_eq (x : Prg) : ((((((([] ++ El.mark) ++ zeros 9) ++ El.kind) ++ [x.entry.toNat, 52, 0, x.flags.toNat].flatMap b4) ++ El.sizes) ++ numB 2 x.segs.length) ++ zeros 6) = head x := by
  simp [head, numB_two, List.append_assoc]
theorem row_eq (g : Seg) (P : Nat) : [1, P, g.addr.toNat, g.addr.toNat, g.data.length, g.size.toNat, g.flags.toNat, 4].flatMap b4 = row g P := by
  simp [row]
theorem rows_snoc (l : List Seg) (g : Seg) (p : Nat) : rows (l ++ [g]) p = rows l p ++ row g (p + (datas l).length) := by
  induction l generalizing p with
  | nil => simp [rows, datas]
  | cons a r ih => rw [List.cons_append, rows, ih, rows, datas_cons, List.length_append, List.append_assoc, Nat.add_assoc]
theorem datas_snoc (l : List Seg) (g : Seg) : datas (l ++ [g]) = datas l ++ g.data := by simp [datas]
theorem datas_take (l : List Seg) (k : Nat) : (datas (l.take k)).length ≤ (datas l).length := by
  conv => rhs; rw [← List.take_append_drop k l]
  unfold datas
  rw [List.flatMap_append, List.length_append]; omega
theorem take_snoc {l : List Seg} {k : Nat} {g : Seg} (h : l[k]? = some g) : l.take (k + 1) = l.take k ++ [g] := by rw [List.take_add_one, h]; rfl
theorem sls_some {W : World} {p : Option Addr} {c : Nat} {l : List Seg} (h : SlS W (.slice p l.length c) l) (hl : 0 < l.length) : ∃ g o, p = some ⟨g, o, none⟩ := by
  rcases h with ⟨_, _, _, e⟩ | ⟨g, o, c', e, _⟩
  · subst e; simp at hl
  · injection e with e1; exact ⟨g, o, e1⟩
end Go.Proofs.Ytkfomhllaogplaa
