/-
  Contracts of the document's Bytes and Write.
-/
import Derived.Test.YtkfomhllaogplaaFA
import Derived.Test.YtkfomhllaogplaaEW
namespace Go.Proofs.Ytkfomhllaogplaa
open Go.RowKit El Go.Lib
open Classical
set_option linter.unusedSimpArgs false

theorem byte_convB (b : Nat) (cc : UInt8) (w : World) (h : w.cell? ⟨b, 0, none⟩ = some (.int .u8 (cc.toNat : Int))) : (convert 58 9 (.slice (some ⟨b, 0, none⟩) 1 1)).run Try.prog w = .ok (.string ⟨#[cc]⟩) w := by
  refine run_convert_bytes_back (P := Try.prog) w 58 9 5 ⟨b, 0, none⟩ 1 [cc] Try.underlying58 Try.underlying5 Try.underlying9 fun j hj => ?_
  have hj0 : j = 0 := by simpa using hj
  subst hj0
  simpa [Addr.add] using h
theorem LookAt.drew {w W : World} {E F : Int} {v : Value} (h : LookAt w E F v W) : LookAt w E F v W.drew := h.below (Below.refl _ W).drew
set_option maxHeartbeats 1000000 in
theorem bytes_any (v n : Nat) (hv : v ≤ 4611686018427387904) (hn : n ≤ 100) (w : World) :
    Calls Try.prog 35 #[.int .i64 (v : Int), .int .i64 (n : Int)] w fun e w' => e = .returned (.string ⟨(numB n v).toArray⟩) ∧ Below w.heap.size w w' := by
  go_enter Try.func35, Try.ntmps35
  go_wp2_with fail
  go_loopg [0, 5, 6] n (fun q u s i wr => ∃ (k x : Nat) (l : List UInt8), k + q = n ∧ i = .int .i64 (k : Int) ∧ u = .int .i64 (x : Int) ∧ x ≤ 4611686018427387904 ∧ s = .string ⟨l.toArray⟩ ∧ l.length = k ∧ Below w.heap.size w wr ∧ numB n v = l ++ numB q x)
  case atStart => exact ⟨0, v, [], by omega, rfl, rfl, hv, rfl, rfl, Below.refl _ _, rfl⟩
  case round =>
    obtain ⟨k, x, l, hkq, rfl, rfl, hx, rfl, hl, hb, he⟩ := hrel
    have He := hideE he
    have HB := hideE hb
    clear he hb
    cases gk with
    | zero =>
      obtain rfl : k = n := by omega
      have hk : ¬ ((k : Int) < (k : Int)) := by omega
      go_wp2_with fail
      go_ret
      refine ⟨?_, HB.out⟩
      rw [He.out]
      simp [numB]
    | succ q =>
      have hk : ((k : Int) < (n : Int)) := by omega
      have hwk : IntKind.i64.wrap ((k : Int) + 1) = (k : Int) + 1 := wrE (by omega) (by omega)
      have hrm : (x : Int).tmod 256 = ((b1 x).toNat : Int) := by rw [Int.tmod_eq_emod_of_nonneg (by omega), b1_toNat]; omega
      have hdv : (x : Int).tdiv 256 = ((x / 256 : Nat) : Int) := by rw [Int.tdiv_eq_ediv_of_nonneg (by omega)]; omega
      obtain ⟨cc, hcc⟩ : ∃ cc, cc = b1 x := ⟨_, rfl⟩
      have hcl := cc.toNat_lt
      rw [← hcc] at hrm
      have hcv := fun (W : World) => byte_convB W.heap.size cc (W.alloc (.cells #[.int .u8 (cc.toNat : Int)] 5)) (alloc_cell _ _ _)
      obtain ⟨l', hl'⟩ : ∃ l', l' = l ++ [cc] := ⟨_, rfl⟩
      have hcat : (⟨l.toArray⟩ : ByteArray) ++ ⟨#[cc]⟩ = ⟨l'.toArray⟩ := by rw [hl']; exact cat_lists _ _
      have hlm : ¬ (9223372036854775807 < l.length + 1) := by omega
      obtain ⟨x', hx'⟩ : ∃ x' : Nat, x' = x / 256 := ⟨_, rfl⟩
      rw [← hx'] at hdv
      have hwx : wrap64 (x' : Int) = (x' : Int) := by unfold wrap64; omega
      have Hx' := hideE hx'
      have Hl' := hideE hl'
      have Hcc := hideE hcc
      clear hx' hl' hcc
      go_wp2_with fail
      go_roundg q
      case measure => omega
      case rel => exact ⟨k + 1, x', l', by omega, by simp, by first | rfl | rw [hwx], by rw [Hx'.out]; omega, rfl, by rw [Hl'.out, List.length_append]; simp; omega, HB.out.alloc HB.out.size _, by rw [He.out, numB, Hx'.out, Hl'.out, Hcc.out, List.append_assoc]; rfl⟩
theorem bytes_at (i : Int) (v n : Nat) (hi : i = (v : Int)) (hv : v ≤ 4611686018427387904) (hn : n ≤ 100) (w : World) :
    Calls Try.prog 35 #[.int .i64 i, .int .i64 (n : Int)] w fun e w' => e = .returned (.string ⟨(numB n v).toArray⟩) ∧ Below w.heap.size w w' := by subst hi; exact bytes_any v n hv hn w
theorem InLook.drew {w W : World} {E F : Int} {v : Value} {b : Nat} {y : Seg} (h : InLook w E F v b y W) : InLook w E F v b y W.drew := h.below (Below.refl _ W).drew
theorem datas_app (l r : List Seg) : datas (l ++ r) = datas l ++ datas r := by simp [datas]
theorem rows_app (l : List Seg) (g : Seg) (p : Nat) : rows (l ++ [g]) p = rows l p ++ row g (p + (datas l).length) := by
  induction l generalizing p with
  | nil => simp [rows, datas]
  | cons a r ih => rw [List.cons_append, rows, rows, ih, datas_cons, List.length_append, List.append_assoc, Nat.add_assoc]
theorem head_bytes (x : Prg) : El.mark ++ numB 9 0 ++ numB 2 2 ++ numB 2 243 ++ numB 4 1 ++ numB 4 x.entry.toNat ++ numB 4 52 ++ numB 4 0 ++ numB 4 x.flags.toNat ++ numB 2 52 ++ numB 2 32 ++ numB 2 x.segs.length ++ numB 6 0 = head x := by
  have e1 : numB 9 0 = zeros 9 := by decide
  have e2 : numB 2 2 ++ (numB 2 243 ++ numB 4 1) = El.kind := by decide
  have e3 : numB 2 52 ++ numB 2 32 = El.sizes := by decide
  have e4 : numB 6 0 = zeros 6 := by decide
  unfold head
  rw [← e1, ← e2, ← e3, ← e4, ← numB_four, ← numB_four, ← numB_four, ← numB_four, ← numB_two]
  simp only [List.append_assoc]
theorem row_bytes (y : Seg) (P N Fl : Nat) (hN : y.size = (N : Int)) (hF : y.flags = (Fl : Int)) : numB 4 1 ++ numB 4 P ++ numB 4 y.addr.toNat ++ numB 4 y.addr.toNat ++ numB 4 y.data.length ++ numB 4 N ++ numB 4 Fl ++ numB 4 4 = row y P := by
  unfold row
  rw [hN, hF, Int.toNat_natCast, Int.toNat_natCast]
  simp only [numB_four, List.append_assoc]
end Go.Proofs.Ytkfomhllaogplaa
