/-
  Contracts of package image: wordsOf (a function that words are ranged over), the words of a text's bytes.
-/
import Derived.RangeFuncNested
import Derived.RangeFuncBound
import Derived.RangeFuncCalls
import Derived.RangeFuncLeaves
import Derived.RangeFuncBox
import Derived.Shelf.Abstract
import Derived.Shelf.RegionOpen
import Derived.OwnWalkIn
import Derived.TacticsInMore
import Derived.LoopNIn
import Derived.LoopIn
import Derived.Maps.AppendAt
import Derived.Test.YtkfomhllaogplaaGC
import Derived.Test.YtkfomhllaogplaaMC
namespace Go.Proofs.Ytkfomhllaogplaa
open Go.RowKit El Go.Lib Go.Shelf
open Classical
set_option linter.unusedSimpArgs false
set_option linter.unusedVariables false

attribute [local go_sem] Oper.semAt_some

/-- One block is as it was. -/
def Kb (B : Nat) (W W' : World) : Prop := W'.heap[B]? = W.heap[B]?
theorem Kb.refl (B : Nat) (W : World) : Kb B W W := rfl
theorem Kb.trans {B : Nat} {X Y Z : World} (h : Kb B X Y) (k : Kb B Y Z) : Kb B X Z := Eq.trans k h
theorem Kb.cell {B : Nat} {W W' : World} (h : Kb B W W') (o : Nat) : W'.cell? ⟨B, o, none⟩ = W.cell? ⟨B, o, none⟩ := World.cell?_of_block h
theorem Kb.putObj {B : Nat} (W : World) (l : Nat) (o' : Obj) (h : B ≠ l) : Kb B W (W.putObj l o') := World.putObj_heap_other h
theorem Kb.of_below {B n : Nat} {W W' : World} (h : Below n W W') (hB : B < n) : Kb B W W' := h.block B hB
theorem word_or (a b c e : UInt8) : bits .or .u32 (bits .or .u32 (bits .or .u32 ((a.toNat : Int) % 4294967296) ((b.toNat : Int) % 4294967296 * 256 % 4294967296)) ((c.toNat : Int) % 4294967296 * 65536 % 4294967296)) ((e.toNat : Int) % 4294967296 * 16777216 % 4294967296) = ((a.toNat + 256 * b.toNat + 65536 * (c.toNat + 256 * e.toNat) : Nat) : Int) := by
  have := a.toNat_lt; have := b.toNat_lt; have := c.toNat_lt; have := e.toNat_lt
  rw [show (a.toNat : Int) % 4294967296 = a.toNat by omega, show (b.toNat : Int) % 4294967296 * 256 % 4294967296 = (b.toNat : Int) * 256 by omega, show (c.toNat : Int) % 4294967296 * 65536 % 4294967296 = (c.toNat : Int) * 65536 by omega, show (e.toNat : Int) % 4294967296 * 16777216 % 4294967296 = (e.toNat : Int) * 16777216 by omega,
    Mm.or_1 _ _ (by omega) (by omega), Mm.or_2 _ _ (by omega) (by omega), Mm.or_3 _ _ (by omega) (by omega)]
  omega
theorem le4_at (d : List UInt8) (m : Nat) (h : m + 3 < d.length) : ((⟨d.toArray⟩ : ByteArray)[m]'(by show m < d.toArray.size; rw [List.size_toArray]; omega)).toNat + 256 * ((⟨d.toArray⟩ : ByteArray)[m + 1]'(by show m + 1 < d.toArray.size; rw [List.size_toArray]; omega)).toNat + 65536 * (((⟨d.toArray⟩ : ByteArray)[m + 2]'(by show m + 2 < d.toArray.size; rw [List.size_toArray]; omega)).toNat + 256 * ((⟨d.toArray⟩ : ByteArray)[m + 3]'(by show m + 3 < d.toArray.size; rw [List.size_toArray]; omega)).toNat) = le4 d m := by
  have q : ∀ j (hj : j < d.length), d.getD j 0 = d[j] := fun j hj => by rw [List.getD_eq_getElem?_getD, List.getElem?_eq_getElem hj]; rfl
  unfold le4 le2
  rw [q m (by omega), q (m + 1) (by omega), q (m + 2) (by omega), q (m + 2 + 1) (by omega)]
  rfl
theorem words_take (d : List UInt8) (m : Nat) (h4 : m % 4 = 0) (h : m + 3 < d.length) : (words d).take ((m + 4) / 4) = (words d).take (m / 4) ++ [le4 d m] := by
  have := words_get d (m / 4) (by omega)
  rw [show 4 * (m / 4) = m by omega] at this
  rw [show (m + 4) / 4 = m / 4 + 1 by omega, List.take_add_one, this]; rfl
set_option maxHeartbeats 1000000 in
theorem wordsOf_in (n : Nat) (s : ByteArray) (w : World) :
    CallsIn Fence.wide n Try.prog 47 #[.string s] w fun e w' => e = .returned (.func (.func 62) #[] #[.pointer (some ⟨w.heap.size, 0, none⟩)]) ∧ w' = w.alloc (.cells #[.string s] 9) := by
  refine callsIn_of_wp Try.func47 rfl trivial ?_ rfl
  simp only [Try.ntmps47, List.size_toArray, List.length_cons, List.length_nil, Nat.reduceAdd, Nat.reduceSub, Array.replicate_succ, Array.replicate_zero, List.push_toArray, List.append_toArray, List.nil_append, List.cons_append]
  gi_wp2
  go_ret
  exact ⟨rfl, rfl⟩
set_option maxRecDepth 100000 in
set_option maxHeartbeats 4000000 in
theorem wordsF_in (n : Nat) (hn : 1 ≤ n) (l Bs : Nat) (d : List UInt8) (hd : d.length % 4 = 0) (hsz : d.length ≤ 4000000) (J Jx : List Nat → World → Prop)
    (hY : ∀ pre (x : Nat) W, J pre W → pre.length < (words d).length → YieldAt Fence.wide (n - 1) Try.prog l #[.int .u32 (x : Int)] W fun e W' =>
      (e = .returned (.bool true) ∧ J (pre ++ [x]) W' ∧ Kb Bs W W') ∨ (e = .returned (.bool false) ∧ Jx (pre ++ [x]) W'))
    (hD : ∀ (pre : List Nat) (W : World), J pre W → J pre W.drew)
    (W : World) (hBs : W.cell? ⟨Bs, 0, none⟩ = some (.string ⟨d.toArray⟩)) (h0 : J [] W) :
    CallsIn Fence.wide n Try.prog 62 #[.func (.yield l) #[] #[], .pointer (some ⟨Bs, 0, none⟩)] W fun e W' => (∃ v, e = .returned v) ∧
      ((∃ ys, ys = words d ∧ J ys W') ∨ (∃ pre, pre <+: words d ∧ Jx pre W')) := by
  refine callsIn_of_wp Try.func62 rfl trivial ?_ rfl
  simp only [Try.ntmps62, List.size_toArray, List.length_cons, List.length_nil, Nat.reduceAdd, Nat.reduceSub, Array.replicate_succ, Array.replicate_zero, List.push_toArray, List.append_toArray, List.nil_append, List.cons_append]
  gi_wp2
  gi_loopw [3] (fun i wr => ∃ m : Nat, m % 4 = 0 ∧ m ≤ d.length ∧ i = .int .i64 (m : Int) ∧ J ((words d).take (m / 4)) wr ∧ Kb Bs W wr)
    (fun i _ => d.length - (intOf i).toNat)
  case atStart => exact ⟨0, rfl, Nat.zero_le _, rfl, h0, Kb.refl _ _⟩
  case round =>
    obtain ⟨m, hm4, hk, rfl, hJs, hnx⟩ := hrel
    have hcx : wr.cell? ⟨Bs, 0, none⟩ = some (.string ⟨d.toArray⟩) := (hnx.cell 0).trans hBs
    by_cases hlt : m < d.length
    · have hcd : wr.drew.cell? ⟨Bs, 0, none⟩ = some (.string ⟨d.toArray⟩) := by simpa using hcx
      have hlt' : (m : Int) < (d.length : Int) := by omega
      have w1 : IntKind.i64.wrap ((m : Int) + 1) = (m : Int) + 1 := wrE (by omega) (by omega)
      have w2 : IntKind.i64.wrap ((m : Int) + 2) = (m : Int) + 2 := wrE (by omega) (by omega)
      have w3 : IntKind.i64.wrap ((m : Int) + 3) = (m : Int) + 3 := wrE (by omega) (by omega)
      have g0 : (0 : Int) ≤ (m : Int) := by omega
      have g1 : (0 : Int) ≤ (m : Int) + 1 := by omega
      have g2 : (0 : Int) ≤ (m : Int) + 2 := by omega
      have g3 : (0 : Int) ≤ (m : Int) + 3 := by omega
      have l1 : (m : Int) + 1 < (d.length : Int) := by omega
      have l2 : (m : Int) + 2 < (d.length : Int) := by omega
      have l3 : (m : Int) + 3 < (d.length : Int) := by omega
      gi_wp2
      gi_region
      rw [word_or, le4_at d m (by omega)]
      obtain ⟨fn, tmps, assign, body, hy, hR⟩ := hY _ (le4 d m) wr.drew (hD _ _ hJs) (by rw [List.length_take, words_len]; omega)
      generalize hx : le4 d m = x at hy hR
      have HX := hideE hx
      clear hx
      gi_wp2
      refine hR.mono ?_
      rintro e W3 (⟨rfl, hJ3, hk3⟩ | ⟨rfl, hJx3⟩)
      · have w4 : IntKind.i64.wrap ((m : Int) + 4) = (m : Int) + 4 := wrE (by omega) (by omega)
        gi_wp2
        go_roundw
        case rel => exact ⟨m + 4, by omega, by omega, by simp, by rw [words_take d m hm4 (by omega), HX.out]; exact hJ3, (hnx.trans (show Kb Bs wr wr.drew from rfl)).trans hk3⟩
        case measure => simp [intOf]; omega
      · gi_wp2
        refine bodyPost_ret (results_none rfl _ _ _) rfl ?_
        have hp : (words d).take (m / 4) ++ [x] <+: words d := by rw [← HX.out, ← words_take d m hm4 (by omega)]; exact List.take_prefix _ _
        first | exact ⟨⟨_, rfl⟩, .inr ⟨_, hp, hJx3⟩⟩
    · have hkk : (m : Int) = (d.length : Int) := by omega
      have hkl : ¬ ((m : Int) < (d.length : Int)) := by omega
      gi_wp2
      go_end0
      have hfin : J (words d) wr := by
        rw [List.take_of_length_le (by rw [words_len]; omega)] at hJs; exact hJs
      first | exact ⟨⟨_, rfl⟩, .inl ⟨_, rfl, hfin⟩⟩ | exact ⟨⟨_, rfl⟩, .inl hfin⟩
/-- The words of a text's bytes, one by one. -/
theorem words_stops (n : Nat) (hn : 1 ≤ n) (Bs : Nat) (d : List UInt8) (hd : d.length % 4 = 0) (hsz : d.length ≤ 4000000) (w : World) (hb : Bs < w.heap.size) (hc : w.cell? ⟨Bs, 0, none⟩ = some (.string ⟨d.toArray⟩)) :
    SeqStopsK Fence.wide n Try.prog 62 #[.pointer (some ⟨Bs, 0, none⟩)] (fun x : Nat => #[Value.int .u32 (x : Int)]) (Kb Bs) (fun ys => ys = words d) (fun pre => pre <+: words d) (words d).length w := fun l J Jx W hW hJ hJx hY h0 =>
  wordsF_in n hn l Bs d hd hsz J Jx hY (fun pre W1 h => hJ pre W1 W1.drew none h ⟨rfl, rfl, rfl, Nat.le_refl _, fun _ _ _ => rfl⟩ (fun r e => by cases e)) W ((hW.cell (p := ⟨Bs, 0, none⟩) hb).trans hc) h0
end Go.Proofs.Ytkfomhllaogplaa
