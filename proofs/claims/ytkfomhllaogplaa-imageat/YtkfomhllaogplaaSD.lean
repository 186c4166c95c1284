/-
  The library's sort at words of 32 bits: which of two, the middle of three, and of three neighbours.
-/
import Derived.Test.YtkfomhllaogplaaSA
import Derived.Sort.WalkD1
namespace Go.Proofs.Ytkfomhllaogplaa
open Go.RowKit Go.Sort

abbrev Z : Int → Value := Value.int .i64

/-- The row of words stays while the counter turns, in another block. -/
theorem row_beside {w : World} {blk off sb so n t : Nat} {d : Array Int} (h : Holds U w blk off d) (hne : sb ≠ blk) : Holds U (putRow Z (Sort.ahead w n) sb so (one t)) blk off d := fun j hj =>
  ⟨by rw [cell?_putRow_other _ _ _ _ _ _ (Or.inl (Ne.symm hne))]; exact (h j hj).1, by rw [frozen?_putRow]; exact (h j hj).2⟩

set_option maxHeartbeats 1000000 in
theorem order2_u (d : Array Int) (len : Nat) (hlen : d.size = len) (blk off cap a b sb so s : Nat) (w : World) (hH : Holds U w blk off d) (ha : a < d.size) (hb : b < d.size) (hS : Holds Z w sb so (one s)) (hs : s < 4611686018427387904) :
    Calls Try.prog 87 #[.slice (some ⟨blk, off, none⟩) len cap, .int .i64 a, .int .i64 b, .pointer (some ⟨sb, so, none⟩)] w fun e w' =>
      e = .returned (.tuple #[.int .i64 (order2 ltInt d a b s).1, .int .i64 (order2 ltInt d a b s).2.1]) ∧ ∃ n, w' = putRow Z (Sort.ahead w n) sb so (one (order2 ltInt d a b s).2.2) := by
  subst hlen
  have ca := (hH a ha).1
  have cb := (hH b hb).1
  obtain ⟨cs, fs⟩ := one_cell hS
  have ea : d[a]! = d[a] := getElem!_pos d a ha
  have eb : d[b]! = d[b] := getElem!_pos d b hb
  go_enter Try.func87, Try.ntmps87
  go_wp2
  go_region_with (go_at_call 76; refine (less_u _ _ _).mono ?_; rintro e w' ⟨rfl, rfl⟩)
  all_goals (try go_wp2)
  all_goals first
    | (have hlt : ltInt d[b] d[a] = true := by assumption
       have e2 : order2 ltInt d a b s = (b, a, s + 1) := by simp [order2, ea, eb, hlt]
       go_ret2
       rw [e2]
       refine ⟨rfl, 1, ?_⟩
       rw [putRow_ahead, ← one_set hS (s + 1)]
       simp [drew_eq_ahead])
    | (have hlt : ltInt d[b] d[a] = false := by assumption
       have e2 : order2 ltInt d a b s = (a, b, s) := by simp [order2, ea, eb, hlt]
       go_ret2
       rw [e2]
       refine ⟨rfl, 1, ?_⟩
       rw [putRow_ahead, putRow_self _ _ _ _ _ hS]
       rfl)

set_option maxHeartbeats 1000000 in
set_option maxRecDepth 100000 in
theorem median_u (d : Array Int) (len : Nat) (hlen : d.size = len) (blk off cap a b c sb so s : Nat) (w : World) (hH : Holds U w blk off d) (ha : a < d.size) (hb : b < d.size) (hc : c < d.size) (hne : sb ≠ blk) (hS : Holds Z w sb so (one s)) (hs : s + 3 < 4611686018427387904) :
    Calls Try.prog 85 #[.slice (some ⟨blk, off, none⟩) len cap, .int .i64 a, .int .i64 b, .int .i64 c, .pointer (some ⟨sb, so, none⟩)] w fun e w' =>
      e = .returned (.int .i64 (median ltInt d a b c s).1) ∧ ∃ n, w' = putRow Z (Sort.ahead w n) sb so (one (median ltInt d a b c s).2) := by
  subst hlen
  have l1 := order2_lt d s ha hb
  have s1 := order2_swaps d a b s
  obtain ⟨r, hr⟩ : ∃ r, order2 ltInt d a b s = r := ⟨_, rfl⟩
  have c1 := order2_u d d.size rfl blk off cap a b sb so s w hH ha hb hS (by omega)
  rw [hr] at l1 s1 c1
  have l2 := order2_lt d r.2.2 l1.2 hc
  have s2 := order2_swaps d r.2.1 c r.2.2
  have c2 : ∀ n1, Calls Try.prog 87 #[.slice (some ⟨blk, off, none⟩) d.size cap, .int .i64 (r.2.1 : Int), .int .i64 c, .pointer (some ⟨sb, so, none⟩)] (putRow Z (Sort.ahead w n1) sb so (one r.2.2)) _ :=
    fun n1 => order2_u d d.size rfl blk off cap r.2.1 c sb so r.2.2 _ (row_beside hH hne) l1.2 hc (holds_one hS) (by omega)
  obtain ⟨q, hq⟩ : ∃ q, order2 ltInt d r.2.1 c r.2.2 = q := ⟨_, rfl⟩
  rw [hq] at l2 s2 c2
  have c3 := fun n1 n2 => order2_u d d.size rfl blk off cap r.1 q.1 sb so q.2.2 (putRow Z (Sort.ahead (putRow Z (Sort.ahead w n1) sb so (one r.2.2)) n2) sb so (one q.2.2)) (row_beside (row_beside hH hne) hne) l1.1 l2.1 (holds_one (holds_one hS)) (by omega)
  have em : median ltInt d a b c s = ((order2 ltInt d r.1 q.1 q.2.2).2.1, (order2 ltInt d r.1 q.1 q.2.2).2.2) := by simp only [median, hr, hq]
  have EM := hide em
  have C1 := hide c1
  have C2 := hide c2
  have C3 := hide c3
  clear em c1 c2 c3 hr hq
  go_enter Try.func85, Try.ntmps85
  go_wp2_with fail
  refine C1.out.mono ?_
  rintro e w' ⟨rfl, n1, rfl⟩
  go_wp2_with fail
  refine (C2.out n1).mono ?_
  rintro e w' ⟨rfl, n2, rfl⟩
  go_wp2_with fail
  refine (C3.out n1 n2).mono ?_
  rintro e w' ⟨rfl, n3, rfl⟩
  go_wp2_with fail
  go_ret
  rw [EM.out]
  exact ⟨rfl, n1 + (n2 + n3), by rw [one_one, one_one]⟩

set_option maxHeartbeats 1000000 in
set_option maxRecDepth 100000 in
theorem medianAdj_u (d : Array Int) (len : Nat) (hlen : d.size = len) (blk off cap a sb so s : Nat) (w : World) (hH : Holds U w blk off d) (ha0 : 1 ≤ a) (ha : a + 1 < d.size) (hsz : d.size < 4611686018427387904) (hne : sb ≠ blk) (hS : Holds Z w sb so (one s)) (hs : s + 3 < 4611686018427387904) :
    Calls Try.prog 84 #[.slice (some ⟨blk, off, none⟩) len cap, .int .i64 a, .pointer (some ⟨sb, so, none⟩)] w fun e w' =>
      e = .returned (.int .i64 (medianAdjacent ltInt d a s).1) ∧ ∃ n, w' = putRow Z (Sort.ahead w n) sb so (one (medianAdjacent ltInt d a s).2) := by
  subst hlen
  have c := median_u d d.size rfl blk off cap (a - 1) a (a + 1) sb so s w hH (by omega) (by omega) ha hne hS hs
  rw [show ((a - 1 : Nat) : Int) = (a : Int) - 1 by omega, show ((a + 1 : Nat) : Int) = (a : Int) + 1 by omega] at c
  have C := hide c
  clear c
  go_enter Try.func84, Try.ntmps84
  go_wp2_with fail
  refine C.out.mono ?_
  rintro e w' ⟨rfl, n1, rfl⟩
  go_wp2_with fail
  go_ret
  exact ⟨rfl, n1, rfl⟩
end Go.Proofs.Ytkfomhllaogplaa
