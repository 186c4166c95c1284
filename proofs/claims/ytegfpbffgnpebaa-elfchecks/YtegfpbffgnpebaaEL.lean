/-
  The library's builder; contracts of package elf's putNumber, putWords, putZeros.
-/
import Derived.Test.YtegfpbffgnpebaaED
import Derived.Test.YtegfpbffgnpebaaShelf
import Derived.Shelf.Strings.BuilderK
namespace Go.Proofs.Ytegfpbffgnpebaa
open Go.RowKit El Go.Lib Go.Shelf
open Classical
set_option linter.unusedSimpArgs false

def w166Ren : Go.Shelf.Ren := ⟨fun | 166 => 29 | 240 => 43 | 276 => 50 | n => n, fun | 0 => 0 | 3 => 3 | 4 => 4 | 5 => 5 | 9 => 9 | 20 => 20 | 37 => 40 | 70 => 48 | 72 => 50 | 75 => 56 | 164 => 84 | 80 => 59 | n => n, fun | n => n⟩
theorem w166Lays : Lays.n166 Try.prog w166Ren := {
  mixed := by kernel_rfl
  f166 := Try.func29.trans (congrArg some (by kernel_rfl))
  f240 := Try.func43.trans (congrArg some (by kernel_rfl))
  f276 := Try.func50.trans (congrArg some (by kernel_rfl))
  t0 := Try.underlying0
  a0 := Try.isAgg0
  z0 := Try.sizeOf0
  v0 := Try.zeroValue0
  t3 := Try.underlying3
  a3 := Try.isAgg3
  z3 := Try.sizeOf3
  v3 := Try.zeroValue3
  t4 := Try.underlying4
  a4 := Try.isAgg4
  z4 := Try.sizeOf4
  v4 := Try.zeroValue4
  t9 := Try.underlying9
  a9 := Try.isAgg9
  z9 := Try.sizeOf9
  v9 := Try.zeroValue9
  t20 := Try.underlying20
  a20 := Try.isAgg20
  z20 := Try.sizeOf20
  v20 := Try.zeroValue20
  t37 := Try.underlying40
  a37 := Try.isAgg40
  z37 := Try.sizeOf40
  v37 := Try.zeroValue40
  t70 := Try.underlying48
  a70 := Try.isAgg48
  z70 := Try.sizeOf48
  v70 := Try.zeroValue48
  t72 := Try.underlying50
  a72 := Try.isAgg50
  z72 := Try.sizeOf50
  v72 := Try.zeroValue50
  t75 := Try.underlying56
  a75 := Try.isAgg56
  z75 := Try.sizeOf56
  v75 := Try.zeroValue56
  t164 := Try.underlying84
  a164 := Try.isAgg84
  z164 := Try.sizeOf84
  v164 := Try.zeroValue84 }
theorem w166Extra : Builder.Extra Try.prog w166Ren := {
  sizeBuilder := by kernel_rfl
  liesBuilder := by kernel_rfl
  t5 := Try.underlying5
  a5 := Try.isAgg5
  z5 := Try.sizeOf5
  v5 := Try.zeroValue5
  infoByte := by kernel_rfl
  cellsByte := by kernel_rfl
  sizeByte := by kernel_rfl
  neB5 := by decide }
def w167Ren : Go.Shelf.Ren := ⟨fun | 167 => 53 | 240 => 43 | 276 => 50 | n => n, fun | 0 => 0 | 3 => 3 | 4 => 4 | 5 => 5 | 9 => 9 | 20 => 20 | 37 => 40 | 70 => 48 | 72 => 50 | 75 => 56 | 164 => 84 | 80 => 59 | n => n, fun | n => n⟩
theorem w167Lays : Lays.n167 Try.prog w167Ren := {
  mixed := by kernel_rfl
  f167 := Try.func53.trans (congrArg some (by kernel_rfl))
  f240 := Try.func43.trans (congrArg some (by kernel_rfl))
  f276 := Try.func50.trans (congrArg some (by kernel_rfl))
  t0 := Try.underlying0
  a0 := Try.isAgg0
  z0 := Try.sizeOf0
  v0 := Try.zeroValue0
  t4 := Try.underlying4
  a4 := Try.isAgg4
  z4 := Try.sizeOf4
  v4 := Try.zeroValue4
  t5 := Try.underlying5
  a5 := Try.isAgg5
  z5 := Try.sizeOf5
  v5 := Try.zeroValue5
  t9 := Try.underlying9
  a9 := Try.isAgg9
  z9 := Try.sizeOf9
  v9 := Try.zeroValue9
  t20 := Try.underlying20
  a20 := Try.isAgg20
  z20 := Try.sizeOf20
  v20 := Try.zeroValue20
  t37 := Try.underlying40
  a37 := Try.isAgg40
  z37 := Try.sizeOf40
  v37 := Try.zeroValue40
  t70 := Try.underlying48
  a70 := Try.isAgg48
  z70 := Try.sizeOf48
  v70 := Try.zeroValue48
  t72 := Try.underlying50
  a72 := Try.isAgg50
  z72 := Try.sizeOf50
  v72 := Try.zeroValue50
  t75 := Try.underlying56
  a75 := Try.isAgg56
  z75 := Try.sizeOf56
  v75 := Try.zeroValue56
  t164 := Try.underlying84
  a164 := Try.isAgg84
  z164 := Try.sizeOf84
  v164 := Try.zeroValue84 }
theorem w167Extra : Builder.Extra Try.prog w167Ren := {
  sizeBuilder := by kernel_rfl
  liesBuilder := by kernel_rfl
  t5 := Try.underlying5
  a5 := Try.isAgg5
  z5 := Try.sizeOf5
  v5 := Try.zeroValue5
  infoByte := by kernel_rfl
  cellsByte := by kernel_rfl
  sizeByte := by kernel_rfl
  neB5 := by decide }

/-- A builder that holds these bytes. -/
def Bd (b : Nat) (l : List UInt8) (W : World) : Prop := Lib.IsBuilderF 50 5 b b (Lib.byteCells l) W
/-- What is behind a writing: all that is no builder's. -/
structure Kp (b : Nat) (w w' : World) : Prop where
  low : Below b w w'
  others : Lib.OthersKept 5 (some b) w w'
theorem Kp.refl (b : Nat) (w : World) : Kp b w w := ⟨Below.refl _ _, Lib.OthersKept.refl _ _ _⟩
theorem Kp.trans {b : Nat} {w w1 w2 : World} (h : Kp b w w1) (k : Kp b w1 w2) : Kp b w w2 := ⟨h.low.trans k.low, h.others.trans k.others⟩
theorem Kp.alloc {b : Nat} {w w1 : World} (h : Kp b w w1) (hb : b ≤ w1.heap.size) (o : Obj) : Kp b w (w1.alloc o) := ⟨h.low.alloc hb _, h.others.alloc o⟩
theorem Kp.at {b : Nat} {w w' : World} (h : Kp b w w') {k : Nat} {cs : Array Value} {t : TypeId} {f : Nat × Nat} (hk : w.heap[k]? = some (.cells cs t f)) (hb : k ≠ b) (ht : t ≠ 5) : w'.heap[k]? = some (.cells cs t f) :=
  h.others k _ hk (fun e => hb (Option.some.inj e)) (fun c fz e => by injection e with _ e; exact ht e)
theorem Bd.alloc {b : Nat} {l : List UInt8} {W : World} (h : Bd b l W) (o : Obj) : Bd b l (W.alloc o) := Lib.IsBuilderF.alloc h o
theorem Bd.lt {b : Nat} {l : List UInt8} {W : World} (h : Bd b l W) : b < W.heap.size := by rcases h with h | h <;> exact h.lt
theorem bcs_app (a b : List UInt8) : Lib.byteCells (a ++ b) = Lib.byteCells a ++ Lib.byteCells b := by simp [Lib.byteCells]
theorem wbyteE (b : Nat) (l : List UInt8) (c : Int) (x : UInt8) (hc : c = (x.toNat : Int)) (w : World) (h : Bd b l w) (hlen : l.length + 1 ≤ 140737488355328) :
    Calls Try.prog 53 #[.pointer (some ⟨b, 0, none⟩), .int .u8 c] w fun e w' => e = .returned .nilIface ∧ Bd b (l ++ [x]) w' ∧ Kp b w w' := by
  subst hc
  refine (Any.Builder_WriteByte_k w167Lays w167Extra b b (Lib.byteCells l) _ w h (by rw [Lib.byteCells_length]; exact hlen) (Nat.le_of_lt h.lt)).mono ?_
  rintro e w' ⟨rfl, h1, h2, h3⟩
  refine ⟨rfl, ?_, h2, h3⟩
  unfold Bd
  rw [bcs_app]
  exact .inr h1
theorem wstrE (b : Nat) (l s : List UInt8) (w : World) (h : Bd b l w) (hlen : l.length + s.length ≤ 140737488355328) :
    Calls Try.prog 29 #[.pointer (some ⟨b, 0, none⟩), .string ⟨s.toArray⟩] w fun e w' => e = .returned (.tuple #[.int .i64 (s.length : Int), .nilIface]) ∧ Bd b (l ++ s) w' ∧ Kp b w w' := by
  refine (Any.Builder_WriteString_k w166Lays w166Extra b b (Lib.byteCells l) ⟨s.toArray⟩ w h (by rw [Lib.byteCells_length]; exact hlen) (Nat.le_of_lt h.lt)).mono ?_
  rintro e w' ⟨rfl, h1, h2, h3⟩
  refine ⟨rfl, ?_, h2, h3⟩
  unfold Bd
  rw [bcs_app]
  exact .inr h1
theorem lenE (b : Nat) (l : List UInt8) (w : World) (h : Bd b l w) :
    Calls Try.prog 52 #[.pointer (some ⟨b, 0, none⟩)] w fun e w' => e = .returned (.int .i64 (l.length : Int)) ∧ w' = w := by
  refine (Any.Builder_Len_f Try.lays170 b b (Lib.byteCells l) w h).mono ?_
  rintro e w' ⟨rfl, rfl⟩
  exact ⟨by rw [Lib.byteCells_length], rfl⟩
theorem stringE (b : Nat) (l : List UInt8) (w : World) (h : Bd b l w) :
    Calls Try.prog 30 #[.pointer (some ⟨b, 0, none⟩)] w fun e w' => e = .returned (.string ⟨l.toArray⟩) ∧ Kp b w w' := by
  refine (Any.Builder_String_any_k Try.lays169 Try.Builder_Extra_169 b b l w h (Nat.le_of_lt h.lt)).mono ?_
  rintro e w' ⟨rfl, _, h2, h3⟩
  exact ⟨rfl, h2, h3⟩
theorem growE (b n : Nat) (w : World) (hbk : w.heap[b]? = some (.cells #[.pointer none, .slice none 0 0] 50 (0, 0))) (hn : n ≤ 281474976710656) :
    Calls Try.prog 25 #[.pointer (some ⟨b, 0, none⟩), .int .i64 (n : Int)] w fun e w' => e = .returned (.tuple #[]) ∧ Bd b [] w' ∧ Below b w w' := by
  refine (Try.Builder_Grow_fresh b b n w (Nat.le_refl _) hbk (Nat.le_of_lt (Array.getElem?_eq_some_iff.1 hbk).1) hn).mono ?_
  rintro e w' ⟨rfl, h1, h2⟩
  exact ⟨rfl, Lib.IsBuilderF.of (.inr h1), h2⟩
/-- A number's bytes, the lowest first. -/
def numB : Nat → Nat → List UInt8
  | 0, _ => []
  | n + 1, v => b1 v :: numB n (v / 256)
theorem numB_two (v : Nat) : numB 2 v = b2 v := rfl
theorem numB_four (v : Nat) : numB 4 v = b4 v := by
  simp only [numB, b4]
  rw [Nat.div_div_eq_div_mul, Nat.div_div_eq_div_mul]
theorem numB_len (n v : Nat) : (numB n v).length = n := by
  induction n generalizing v with
  | zero => rfl
  | succ n ih => rw [numB, List.length_cons, ih]
set_option maxHeartbeats 1000000 in
theorem putNumber_any (b : Nat) (l : List UInt8) (n v : Nat) (hv : v < 4294967296) (hn : n ≤ 4) (hlen : l.length ≤ 70368744177664) (w : World) (h : Bd b l w) :
    Calls Try.prog 47 #[.pointer (some ⟨b, 0, none⟩), .int .i64 (n : Int), .int .u32 (v : Int)] w fun e w' => e = .returned (.tuple #[]) ∧ Bd b (l ++ numB n v) w' ∧ Kp b w w' := by
  have Hh := hideE h
  clear h
  go_enter Try.func47, Try.ntmps47
  go_wp2_with fail
  go_loopg [2, 7] n (fun q u i wr => ∃ (k x : Nat) (l' : List UInt8), k + q = n ∧ i = .int .i64 (k : Int) ∧ u = .int .u32 (x : Int) ∧ x < 4294967296 ∧ l'.length = l.length + k ∧ Bd b l' wr ∧ Kp b w wr ∧ l ++ numB n v = l' ++ numB q x)
  case atStart => exact ⟨0, v, l, by omega, rfl, rfl, hv, rfl, Hh.out, Kp.refl _ _, rfl⟩
  case round =>
    obtain ⟨k, x, l', hkq, rfl, rfl, hx, hl', hB, hK, he⟩ := hrel
    have He := hideE he
    have HK := hideE hK
    have HB := hideE hB
    clear he hK hB
    cases gk with
    | zero =>
      obtain rfl : k = n := by omega
      have hk : ¬ ((k : Int) < (k : Int)) := by omega
      go_wp2_with fail
      go_end0
      refine ⟨rfl, ?_, HK.out⟩
      rw [He.out]
      simpa [numB] using HB.out
    | succ q =>
      have hk : ((k : Int) < (n : Int)) := by omega
      have hwk : IntKind.i64.wrap ((k : Int) + 1) = (k : Int) + 1 := wrE (by omega) (by omega)
      go_wp2_with (go_at_call 53; refine (wbyteE b l' _ (b1 x) (by rw [b1_toNat]; omega) _ HB.out (by omega)).mono ?_; rintro e w1 ⟨rfl, hB1, hK1⟩)
      go_roundg q
      case measure => omega
      case rel => exact ⟨k + 1, x / 256, l' ++ [b1 x], by omega, by simp, by simp, by omega, by simp; omega, hB1, HK.out.trans hK1, by rw [He.out, numB]; simp⟩
set_option maxHeartbeats 1000000 in
theorem putZeros_any (b : Nat) (l : List UInt8) (n : Nat) (hn : n ≤ 1000) (hl : l.length ≤ n) (w : World) (h : Bd b l w) :
    Calls Try.prog 45 #[.pointer (some ⟨b, 0, none⟩), .int .i64 (n : Int)] w fun e w' => e = .returned (.tuple #[]) ∧ Bd b (l ++ zeros (n - l.length)) w' ∧ Kp b w w' := by
  have Hh := hideE h
  clear h
  go_enter Try.func45, Try.ntmps45
  go_wp2_with fail
  go_loopg [5] (n - l.length) (fun q _ wr => ∃ (l' : List UInt8), l'.length + q = n ∧ Bd b l' wr ∧ Kp b w wr ∧ l ++ zeros (n - l.length) = l' ++ zeros q)
  case atStart => exact ⟨l, by omega, Hh.out, Kp.refl _ _, rfl⟩
  case round =>
    obtain ⟨l', hq, hB, hK, he⟩ := hrel
    have He := hideE he
    have HK := hideE hK
    have HB := hideE hB
    clear he hK hB
    cases gk with
    | zero =>
      have hk : ¬ ((l'.length : Int) < (n : Int)) := by omega
      go_wp2_with (go_at_call 52; refine (lenE b l' _ HB.out).mono ?_; rintro e w1 ⟨rfl, rfl⟩)
      go_end0
      refine ⟨rfl, ?_, HK.out⟩
      rw [He.out]
      simpa [zeros] using HB.out
    | succ q =>
      have hk : ((l'.length : Int) < (n : Int)) := by omega
      go_wp2_with (first
        | (go_at_call 52; refine (lenE b l' _ HB.out).mono ?_; rintro e w1 ⟨rfl, rfl⟩)
        | (go_at_call 53; refine (wbyteE b l' _ 0 rfl _ HB.out (by omega)).mono ?_; rintro e w1 ⟨rfl, hB1, hK1⟩))
      go_roundg q
      case measure => omega
      case rel => exact ⟨l' ++ [0], by simp; omega, hB1, HK.out.trans hK1, by rw [He.out]; unfold zeros; rw [List.replicate_succ, List.append_assoc]; rfl⟩
def wordVs (ws : List Nat) : Array Value := (ws.map fun x : Nat => Value.int .u32 (x : Int)).toArray
set_option maxHeartbeats 1000000 in
theorem putWords_any (b g : Nat) (l : List UInt8) (ws : List Nat) (hws : ∀ x ∈ ws, x < 4294967296) (hn : ws.length ≤ 100) (hlen : l.length ≤ 35184372088832) (hgb : g ≠ b) (c : Nat) (w : World) (h : Bd b l w) (hg : w.heap[g]? = some (.cells (wordVs ws) 22 (0, 0))) :
    Calls Try.prog 46 #[.pointer (some ⟨b, 0, none⟩), .slice (some ⟨g, 0, none⟩) ws.length c] w fun e w' => e = .returned (.tuple #[]) ∧ Bd b (l ++ ws.flatMap b4) w' ∧ Kp b w w' := by
  have Hh := hideE h
  have Hg := hideE hg
  have Hw := hideE hws
  clear h hg hws
  go_enter Try.func46, Try.ntmps46
  go_wp2_with fail
  go_loopg [8] ws.length (fun q i wr => ∃ k : Nat, k + q = ws.length ∧ i = .int .i64 (k : Int) ∧ Bd b (l ++ (ws.take k).flatMap b4) wr ∧ Kp b w wr)
  case atStart => exact ⟨0, by omega, rfl, by simpa using Hh.out, Kp.refl _ _⟩
  case round =>
    obtain ⟨k, hkq, rfl, hB, hK⟩ := hrel
    have HK := hideE hK
    have HB := hideE hB
    clear hK hB
    cases gk with
    | zero =>
      obtain rfl : k = ws.length := by omega
      have hk : ¬ ((ws.length : Int) < (ws.length : Int)) := by omega
      go_wp2_with fail
      go_end0
      refine ⟨rfl, ?_, HK.out⟩
      simpa using HB.out
    | succ q =>
      have hk : ((k : Int) < (ws.length : Int)) := by omega
      have hk0 : (0 : Int) ≤ (k : Int) := by omega
      have hwk : IntKind.i64.wrap ((k : Int) + 1) = (k : Int) + 1 := wrE (by omega) (by omega)
      obtain ⟨x, hx⟩ : ∃ x, ws[k]? = some x := ⟨ws[k]'(by omega), List.getElem?_eq_getElem (by omega)⟩
      have hc : wr.cell? ⟨g, k, none⟩ = some (.int .u32 (x : Int)) := by
        simp only [World.cell?, HK.out.at Hg.out hgb (by decide), wordVs]
        simp [hx]
      have hx4 := Hw.out x (List.mem_of_getElem? hx)
      have Hx := hideE hx
      have hl4 : ((ws.take k).flatMap b4).length ≤ 4 * 100 := by
        have : ∀ r : List Nat, (r.flatMap b4).length = 4 * r.length := fun r => by
          induction r with
          | nil => rfl
          | cons a r ih => rw [List.flatMap_cons, List.length_append, ih]; simp [b4]; omega
        rw [this, List.length_take]; omega
      clear hx
      go_wp2_with (go_at_call 47; refine (putNumber_any b _ 4 x hx4 (by omega) (by rw [List.length_append]; omega) _ HB.out).mono ?_; rintro e w1 ⟨rfl, hB1, hK1⟩)
      go_roundg q
      case measure => omega
      case rel =>
        refine ⟨k + 1, by omega, by simp, ?_, HK.out.trans hK1⟩
        rw [List.take_add_one, Hx.out, List.flatMap_append, ← List.append_assoc]
        simpa [numB_four] using hB1
end Go.Proofs.Ytegfpbffgnpebaa
