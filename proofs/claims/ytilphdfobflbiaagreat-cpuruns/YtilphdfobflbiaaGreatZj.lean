/-
  The document's own memory (a list of cells behind a pointer): what it is, New, at, Load.
  The document's memory: a byte set. First the plain list that its loop makes.
  The document's memory: New, Store, Put.
  The document's memory: Bytes.
-/
import Derived.OwnWalk
import Derived.Deep.RegionHeld3
import Derived.Deep.Onto
import Derived.Laws.IdiomStrings
import Derived.Test.YtilphdfobflbiaaGreatZi
namespace Go.Proofs.YtilphdfobflbiaaGreat
open Go.RowKit Go.Maps Mm

/-- The document's memory at kb: its list is a row of its own. -/
structure RefAt (w : World) (B kb : Nat) (l : Cs) : Prop where
  got : ∃ v, w.heap[kb]? = some (.cells #[v] 40) ∧ w.ownsRow B 66 2 v l.length (cellsOf l)
  rise : Rise l
  base : B ≤ kb
theorem heap_cell {w : World} {b : Nat} {v : Value} {t : TypeId} (h : w.heap[b]? = some (.cells #[v] t)) : w.cell? ⟨b, 0, none⟩ = some v := by
  unfold World.cell?; rw [h]; rfl

set_option maxHeartbeats 1000000 in
theorem rat_any {B kb : Nat} {l : Cs} {a : Int} (w : World) (h : RefAt w B kb l) :
    Calls Tryz.prog 48 #[.pointer (some ⟨kb, 0, none⟩), .int .u32 a] w fun e w' => e = .returned (.int .u8 (Mm.look l a)) ∧ w' = w := by
  obtain ⟨v, hv, hrow⟩ := h.got
  have hr := h.rise
  have hcell := heap_cell hv
  have hlen := hr.length
  clear hv h
  obtain ⟨ad, cp, rfl⟩ : ∃ ad cp, v = .slice ad l.length cp := by
    rcases hrow.2 with ⟨hx, h0⟩ | ⟨g, cap', cur, hx, _⟩
    · rw [h0]; exact ⟨_, _, hx⟩
    · exact ⟨_, _, hx⟩
  go_enter Tryz.func48, Tryz.ntmps48
  go_wp2
  go_loopw [5] (fun u W => ∃ k : Nat, u = .int .i64 k ∧ k ≤ l.length ∧ (∀ p ∈ l.take k, p.1 ≠ a) ∧ W = w) (fun u _ => l.length - (intOf u).toNat)
  case atStart => exact ⟨0, rfl, Nat.zero_le _, by simp, rfl⟩
  case round =>
    obtain ⟨k, rfl, hk, hno, rfl⟩ := hrel
    by_cases hlt : k < l.length
    · obtain ⟨g, cp', hv, hg1⟩ : ∃ g cp', Value.slice ad l.length cp = .slice (some ⟨g, 0, none⟩) l.length cp' ∧ B ≤ g := by
        rcases hrow.2 with ⟨_, h0⟩ | ⟨g, cap', cur, hv, hb', _⟩
        · omega
        · exact ⟨g, cap', hv, hb'⟩
      simp only [Value.slice.injEq] at hv
      obtain ⟨rfl, _, rfl⟩ := hv
      obtain ⟨x0, y0⟩ := cellsOf_at l k hlt
      have C0 := (hrow.cellAt (k * 2) (by omega)).trans x0
      have C1 := (hrow.cellAt (k * 2 + 1) (by omega)).trans y0
      have HL := hide (look_mem hr (List.getElem_mem hlt))
      have hst : l.take (k + 1) = l.take k ++ [l[k]] := (List.take_append_getElem hlt).symm
      have HN : Hid (l[k].1 ≠ a → ∀ p ∈ l.take (k + 1), p.1 ≠ a) := fun hne p hp => by
        rw [hst, List.mem_append] at hp
        rcases hp with hp | hp
        · exact hno p hp
        · rw [List.mem_singleton] at hp; rw [hp]; exact hne
      obtain ⟨A, hA⟩ : ∃ A, A = (l[k]).1 := ⟨_, rfl⟩
      obtain ⟨E, hE⟩ : ∃ E, E = (l[k]).2 := ⟨_, rfl⟩
      rw [← hA] at C0 HL HN
      rw [← hE] at C1 HL
      clear hA hE x0 y0 hst hno hrow
      by_cases he : A = a
      · subst he
        have hq : (A == A) = true := by simp
        go_wp2
        go_ret
        exact ⟨by rw [HL.out]; rfl, rfl⟩
      · have hq : (A == a) = false := by simpa using he
        go_wp2
        exact ⟨⟨k + 1, by go_num, by omega, HN.out he, trivial⟩, by simp [intOf]; omega⟩
    · obtain rfl : k = l.length := by omega
      have HZ : Hid (Mm.look l a = 0) := look_none (by rwa [List.take_length] at hno)
      clear hno hrow
      go_wp2
      go_ret
      exact ⟨by rw [HZ.out]; rfl, rfl⟩

def hin (l : Cs) (a n : Int) : Nat → Int
  | 0 => 0
  | j + 1 => hin l a n j * 256 + Mm.look l ((a + (n - 1 - j)) % 4294967296)
theorem hin_range {l : Cs} (h : Rise l) (a n : Int) : ∀ j : Nat, 0 ≤ hin l a n j ∧ hin l a n j < 256 ^ j
  | 0 => by simp [hin]
  | j + 1 => by
    have ih := hin_range h a n j
    have := look_range h ((a + (n - 1 - j)) % 4294967296)
    unfold hin
    rw [Int.pow_succ]; omega
theorem hin_all (l : Cs) (a n : Int) (ha : 0 ≤ a ∧ a < 4294967296) (hn : n = 1 ∨ n = 2 ∨ n = 4) : hin l a n n.toNat = num l a n.toNat := by
  have e : (a + 0) % 4294967296 = a := by omega
  rcases hn with rfl | rfl | rfl
  · show 0 * 256 + Mm.look l ((a + (1 - 1 - 0)) % 4294967296) = 0 + Mm.look l ((a + ((0 : Nat) : Int)) % 4294967296) * 256 ^ 0
    rw [show (a + ((1 : Int) - 1 - 0)) = a + ((0 : Nat) : Int) by omega]; omega
  · rw [show (2 : Int).toNat = 2 from rfl, num_two l a ha]
    show (0 * 256 + Mm.look l ((a + (2 - 1 - 0)) % 4294967296)) * 256 + Mm.look l ((a + (2 - 1 - 1)) % 4294967296) = _
    rw [show (a + ((2 : Int) - 1 - 0)) = a + 1 by omega, show (a + ((2 : Int) - 1 - 1)) % 4294967296 = a by omega]; omega
  · rw [show (4 : Int).toNat = 4 from rfl, num_four l a ha]
    show (((0 * 256 + Mm.look l ((a + (4 - 1 - 0)) % 4294967296)) * 256 + Mm.look l ((a + (4 - 1 - 1)) % 4294967296)) * 256 + Mm.look l ((a + (4 - 1 - 2)) % 4294967296)) * 256 + Mm.look l ((a + (4 - 1 - 3)) % 4294967296) = _
    rw [show (a + ((4 : Int) - 1 - 0)) = a + 3 by omega, show (a + ((4 : Int) - 1 - 1)) = a + 2 by omega, show (a + ((4 : Int) - 1 - 2)) = a + 1 by omega, show (a + ((4 : Int) - 1 - 3)) % 4294967296 = a by omega]; omega
theorem rload_no {a n : Int} (p : Value) (h : n ≠ 1 ∧ n ≠ 2 ∧ n ≠ 4) (w : World) : Calls Tryz.prog 22 #[p, .int .u32 a, .int .i64 n] w fun e w' => e = .returned (.tuple #[.int .u32 0, .int .i64 1]) ∧ w' = w := by
  have h1 : (n == 1) = false := by simp [h.1]
  have h2 : (n == 2) = false := by simp [h.2.1]
  have h3 : (n == 4) = false := by simp [h.2.2]
  have g1 : (n != 1) = true := by simp [h.1]
  have g2 : (n != 2) = true := by simp [h.2.1]
  have g3 : (n != 4) = true := by simp [h.2.2]
  clear h
  go_enter Tryz.func22, Tryz.ntmps22
  go_wp2
  go_ret2
  exact ⟨rfl, rfl⟩
set_option maxHeartbeats 1000000 in
theorem rload_any {B kb : Nat} {l : Cs} {a n : Int} (w : World) (h : RefAt w B kb l) (ha : 0 ≤ a ∧ a < 4294967296) (hn : n = 1 ∨ n = 2 ∨ n = 4) :
    Calls Tryz.prog 22 #[.pointer (some ⟨kb, 0, none⟩), .int .u32 a, .int .i64 n] w fun e w' => e = .returned (.tuple #[.int .u32 (num l a n.toNat), .int .i64 0]) ∧ w' = w := by
  have HF := hide (hin_all l a n ha hn)
  have HR := hide (hin_range h.rise a n)
  have HS := hide (look_range h.rise)
  obtain ⟨ha0, ha1⟩ := ha
  have hn1 : 1 ≤ n := by omega
  have hn4 : n ≤ 4 := by omega
  have hcase : (n != 1) = false ∨ ((n != 1) = true ∧ (n != 2) = false) ∨ ((n != 1) = true ∧ (n != 2) = true ∧ (n != 4) = false) := by
    rcases hn with rfl | rfl | rfl
    · exact .inl rfl
    · exact .inr (.inl ⟨rfl, rfl⟩)
    · exact .inr (.inr ⟨rfl, rfl, rfl⟩)
  clear hn
  have HH := hide h
  clear h
  rcases hcase with g1 | ⟨g1, g2⟩ | ⟨g1, g2, g3⟩
  all_goals
    go_enter Tryz.func22, Tryz.ntmps22
    go_wp2
    go_loopw [8, 9] (fun v u W => ∃ j : Nat, (j : Int) ≤ n ∧ v = .int .u32 (hin l a n j) ∧ u = .int .i64 (n - 1 - j) ∧ W = w) (fun _ u _ => (intOf u + 1).toNat)
    case atStart => exact ⟨0, by omega, rfl, by go_num, rfl⟩
    case round =>
      obtain ⟨j, hj, rfl, rfl, rfl⟩ := hrel
      by_cases hlt : (j : Int) < n
      · have hX := HR.out j
        have hp : (256 : Int) ^ j ≤ 16777216 := by
          have : j = 0 ∨ j = 1 ∨ j = 2 ∨ j = 3 := by omega
          rcases this with rfl | rfl | rfl | rfl <;> decide
        have HE : Hid (hin l a n (j + 1) = hin l a n j * 256 + Mm.look l ((a + (n - 1 - j)) % 4294967296)) := rfl
        obtain ⟨X, eX⟩ : ∃ X, X = hin l a n j := ⟨_, rfl⟩
        rw [← eX] at hX HE ⊢
        obtain ⟨Y, eY⟩ : ∃ Y, Y = Mm.look l ((a + (n - 1 - j)) % 4294967296) := ⟨_, rfl⟩
        have hY := HS.out ((a + (n - 1 - j)) % 4294967296)
        have HY := hide eY
        rw [← eY] at hY HE
        clear eX eY
        have hX1 : X < 16777216 := by omega
        clear hp
        go_wp2_with (go_at_call 48; refine (rat_any _ HH.out).mono ?_; rintro e w' ⟨rfl, rfl⟩)
        have hv : (X * 256 + Mm.look l ((a + (n - 1 - j)) % 4294967296) % 4294967296) % 4294967296 = hin l a n (j + 1) := by
          rw [HE.out, ← HY.out]; omega
        exact ⟨⟨j + 1, by omega, by rw [hv], by go_num, trivial⟩, by simp [intOf]; omega⟩
      · have hjn : n.toNat = j := by omega
        have HJ : Hid (hin l a n j = num l a j) := by have := HF.out; rw [hjn] at this; exact this
        have hj' : n = (j : Int) := by omega
        clear HF HR
        subst hj'
        go_wp2
        go_ret2
        exact ⟨by rw [← HJ.out]; rfl, rfl⟩
end Go.Proofs.YtilphdfobflbiaaGreat
namespace Go.Proofs.YtilphdfobflbiaaGreat
open Go.RowKit Go.Maps Mm

def stp (a c : Int) (s : Cs × Bool) (p : Int × Int) : Cs × Bool :=
  let t := if s.2 = false ∧ a ≤ p.1 then (s.1 ++ [(a, c)], true) else s
  (if p.1 = a then t.1 else t.1 ++ [p], t.2)
def fin (a c : Int) (s : Cs × Bool) : Cs := if s.2 then s.1 else s.1 ++ [(a, c)]
theorem stp_put (a c : Int) : ∀ (l o : Cs), l.foldl (stp a c) (o, true) = (o ++ del a l, true)
  | [], o => by simp [del]
  | p :: r, o => by
    have e : stp a c (o, true) p = (if p.1 = a then o else o ++ [p], true) := by simp [stp]
    rw [List.foldl_cons, e, stp_put a c r]
    unfold del
    by_cases h : p.1 = a
    · simp [h]
    · simp [h]
theorem del_above {a : Int} {l : Cs} (h : ∀ p ∈ l, a < p.1) : del a l = l := by
  unfold del
  rw [List.filter_eq_self]
  intro p hp
  have := h p hp
  simp; omega
theorem stp_ins (a c : Int) : ∀ (l o : Cs), Rise l → fin a c (l.foldl (stp a c) (o, false)) = o ++ ins a c l
  | [], o, _ => by simp [fin, ins]
  | p :: r, o, h => by
    rw [List.foldl_cons]
    by_cases h1 : a ≤ p.1
    · have e : stp a c (o, false) p = (if p.1 = a then o ++ [(a, c)] else o ++ [(a, c)] ++ [p], true) := by simp [stp, h1]
      have hd : del a r = r := del_above fun q hq => by have := h.head q hq; omega
      rw [e, stp_put, hd]
      unfold ins
      by_cases h2 : p.1 = a
      · rw [if_pos h2, if_neg (by omega), if_pos h2]; simp [fin]
      · rw [if_neg h2, if_pos (by omega)]; simp [fin]
    · have e : stp a c (o, false) p = (o ++ [p], false) := by
        simp only [stp]
        rw [if_neg (by omega), if_neg (fun hh => h1 hh.2)]
      rw [e, stp_ins a c r _ h.tail]
      conv => rhs; unfold ins
      rw [if_neg (by omega), if_neg (by omega)]; simp
theorem stp_all (a c : Int) (l : Cs) (h : Rise l) : fin a c (l.foldl (stp a c) ([], decide (c = 0))) = Mm.set l a c := by
  unfold Mm.set
  by_cases hc : c = 0
  · rw [if_pos hc, decide_eq_true hc, stp_put]; simp [fin]
  · rw [if_neg hc, decide_eq_false hc, stp_ins a c l [] h]; simp
def st (a c : Int) (l : Cs) (k : Nat) : Cs × Bool := (l.take k).foldl (stp a c) ([], decide (c = 0))
theorem st_succ (a c : Int) (l : Cs) (k : Nat) (hk : k < l.length) : st a c l (k + 1) = stp a c (st a c l k) l[k] := by
  unfold st
  rw [(List.take_append_getElem hk).symm, List.foldl_append]; rfl
theorem stp_len (a c : Int) (s : Cs × Bool) (p : Int × Int) : (stp a c s p).1.length ≤ s.1.length + 2 := by
  unfold stp
  simp only
  split <;> split <;> simp <;> omega
theorem st_len (a c : Int) (l : Cs) : ∀ k, k ≤ l.length → (st a c l k).1.length ≤ 2 * k
  | 0, _ => by simp [st]
  | k + 1, hk => by
    have := st_len a c l k (by omega)
    have := stp_len a c (st a c l k) l[k]
    rw [st_succ a c l k (by omega)]; omega
theorem row_add {w : World} {B : Nat} {v : Value} {l : Cs} {p q : Int} (h : w.ownsRow B 66 2 v (l.length + 1) (cellsOf l ++ [.int .u32 p, .int .u8 q])) : w.ownsRow B 66 2 v (l ++ [(p, q)]).length (cellsOf (l ++ [(p, q)])) := by
  have e : cellsOf l ++ [.int .u32 p, .int .u8 q] = cellsOf (l ++ [(p, q)]) := by simp [cellsOf]
  rw [← e, List.length_append]; exact h
theorem row_form {w : World} {B : Nat} {v : Value} {n : Nat} {xs : List Value} (h : w.ownsRow B 66 2 v n xs) : ∃ ad cp, v = .slice ad n cp := by
  rcases h.2 with ⟨hx, h0⟩ | ⟨g, cap', cur, hx, _⟩
  · rw [h0]; exact ⟨_, _, hx⟩
  · exact ⟨_, _, hx⟩
theorem heap_lt {w : World} {b : Nat} {o : Obj} (h : w.heap[b]? = some o) : b < w.heap.size := (Array.getElem?_eq_some_iff.1 h).1
theorem ref_frozen {w w' : World} {b : Nat} {v : Value} {t : TypeId} (hb : Below w.heap.size w w') (h : w.heap[b]? = some (.cells #[v] t)) : w'.frozen? ⟨b, 0, none⟩ = false := by
  have e : w'.heap[b]? = some (.cells #[v] t) := (hb.block _ (heap_lt h)).trans h
  unfold World.frozen?
  simp [e]
theorem ref_stored {w w' : World} {B kb : Nat} {v u : Value} {l' : Cs} (h : w.heap[kb]? = some (.cells #[v] 40)) (hb : Below w.heap.size w w') (hrow : w'.ownsRow w.heap.size 66 2 u l'.length (cellsOf l')) (hr : Rise l') (hB : B ≤ kb) (hB' : B ≤ w.heap.size) :
    RefAt (w'.setCell ⟨kb, 0, none⟩ u) B kb l' ∧ w.grownBy (w'.setCell ⟨kb, 0, none⟩ u) (some kb) := by
  have hl := heap_lt h
  have e : w'.heap[kb]? = some (.cells #[v] 40) := (hb.block _ hl).trans h
  refine ⟨⟨⟨u, ?_, ?_⟩, hr, hB⟩, ?_⟩
  · have := heap_setCell_same w' kb 0 #[v] 40 u e
    simpa using this
  · exact World.ownsRow.mono (ownsRow_setCell_below hrow (a := ⟨kb, 0, none⟩) hl u) hB'
  · exact ⟨hb.os, hb.tape, hb.output, by simpa using hb.size, fun k hk hne => (heap_setCell_other w' ⟨kb, 0, none⟩ k u (by simpa using hne)).trans (hb.block k hk)⟩
theorem cellsOf_add (l : Cs) (p : Int × Int) : cellsOf l ++ [.int .u32 p.1, .int .u8 p.2] = cellsOf (l ++ [p]) := by simp [cellsOf]

set_option maxHeartbeats 2000000 in
set_option maxRecDepth 100000 in
theorem rset_any {B kb : Nat} {l : Cs} {a c : Int} (w : World) (h : RefAt w B kb l) (ha : 0 ≤ a ∧ a < 4294967296) (hc : 0 ≤ c ∧ c ≤ 255) (hB : B ≤ w.heap.size) :
    Calls Tryz.prog 34 #[.pointer (some ⟨kb, 0, none⟩), .int .u32 a, .int .u8 c] w fun e w' => e = .returned (.tuple #[]) ∧ RefAt w' B kb (Mm.set l a c) ∧ w.grownBy w' (some kb) := by
  obtain ⟨v, hv, hrow⟩ := h.got
  have hr := h.rise
  have HB := h.base
  have hcell := heap_cell hv
  have hlen := hr.length
  obtain ⟨i0, hi, hz0, hz1, hz2⟩ := info_parts infoCell
  obtain ⟨ad, cp, rfl⟩ : ∃ ad cp, v = .slice ad l.length cp := by
    rcases hrow.2 with ⟨hx, h0⟩ | ⟨g, cap', cur, hx, _⟩
    · rw [h0]; exact ⟨_, _, hx⟩
    · exact ⟨_, _, hx⟩
  have hlit : ∀ W : World, w.heap.size ≤ W.heap.size → (W.alloc (.cells #[] 66)).ownsRow w.heap.size 66 2 (.slice (some ⟨W.heap.size, 0, none⟩) 0 0) 0 (cellsOf []) := fun W hW => World.ownsRow_lit W #[] 0 hW (by unfold maxLen; omega) rfl
  have HLIT := hide (hlit w (Nat.le_refl _))
  obtain ⟨ha0, ha1⟩ := ha
  obtain ⟨hc0, hc1⟩ := hc
  have hz : (c == 0) = decide (c = 0) := by by_cases h : c = 0 <;> simp [h]
  have HZ := hide hz
  have HV := hide hv
  have HROW := hide hrow
  have HC := hide hcell
  clear hlit h hz hv hrow hcell
  go_enter Tryz.func34, Tryz.ntmps34
  go_wp2
  go_loopw [6, 7, 8] (fun o f u W => ∃ k : Nat, u = .int .i64 k ∧ k ≤ l.length ∧ W.ownsRow w.heap.size 66 2 o (st a c l k).1.length (cellsOf (st a c l k).1) ∧ f = .bool (st a c l k).2 ∧ Below w.heap.size w W) (fun _ _ u _ => l.length - (intOf u).toNat)
  case atStart => exact ⟨0, rfl, Nat.zero_le _, HLIT.out, by rw [HZ.out]; rfl, (Below.refl _ _).alloc (Nat.le_refl _) _⟩
  case round =>
    obtain ⟨k, rfl, hk, hout, rfl, hb⟩ := hrel
    by_cases hlt : k < l.length
    · obtain ⟨g, cp', hv, hg1⟩ : ∃ g cp', Value.slice ad l.length cp = .slice (some ⟨g, 0, none⟩) l.length cp' ∧ B ≤ g := by
        rcases HROW.out.2 with ⟨_, h0⟩ | ⟨g, cap', cur, hv, hb', _⟩
        · omega
        · exact ⟨g, cap', hv, hb'⟩
      simp only [Value.slice.injEq] at hv
      obtain ⟨rfl, _, rfl⟩ := hv
      obtain ⟨x0, y0⟩ := cellsOf_at l k hlt
      have W0 := hide ((HROW.out.cellAt (k * 2) (by omega)).trans x0)
      have W1 := hide ((HROW.out.cellAt (k * 2 + 1) (by omega)).trans y0)
      have C0 := cell_below hb W0.out
      have C1 := cell_below hb W1.out
      have C2 := cell_below hb HC.out
      have HS := hide (st_succ a c l k hlt)
      have hsl := st_len a c l k hk
      obtain ⟨A, hA⟩ : ∃ A, A = (l[k]).1 := ⟨_, rfl⟩
      obtain ⟨E, hE⟩ : ∃ E, E = (l[k]).2 := ⟨_, rfl⟩
      have HP := hide (show l[k] = (A, E) by rw [hA, hE])
      rw [HP.out] at HS
      rw [← hA] at C0 W0
      rw [← hE] at C1 W1
      clear hA hE x0 y0 HLIT HZ
      generalize st a c l k = S at hout HS hsl ⊢
      obtain ⟨O, F⟩ := S
      simp only at hout hsl ⊢
      have hb3s := hb.size
      cases F with
      | true =>
        by_cases he : A = a
        · subst he
          have HS1 := hide (show st A c l (k + 1) = (O, true) by rw [HS.out]; simp [stp])
          have hq : (A != A) = false := by simp
          clear HS
          go_wp2_with fail
          exact ⟨⟨k + 1, by go_num, by omega, by rw [HS1.out]; exact hout, by rw [HS1.out], hb⟩, by simp [intOf]; omega⟩
        · have HS1 := hide (show st a c l (k + 1) = (O ++ [(A, E)], true) by rw [HS.out]; simp [stp, he])
          have hq : (A != a) = true := by simpa using he
          clear HS
          go_wp2_with (first
            | (at_builtin; refine wpList_append_own _ rfl _ _ 37 rfl w.heap.size 66 i0 (.agg #[.int .u32 0, .int .u8 0]) 2 8 Tryz.underlying37 hi hz0 hz1 hz2 rfl (by decide) _ _ _ rfl (hout.alloc _) ⟨wr.heap.size, 0, none⟩ 1 1 [.int .u32 A, .int .u8 E] rfl rfl (cell_pair_new _ _ _ _) (by simp [Value.oneCell']) (by unfold maxLen; omega) (by omega) (by simp; omega) ?_; intro v' w3 hown' hgrow hnil)
            | go_in)
          have hb3 : Below w.heap.size w w3 := (hb.alloc hb.size _).grown hgrow (by have := hb.size; simp; omega) (fun j e => (hout.lt j e).1)
          exact ⟨⟨k + 1, by go_num, by omega, by rw [HS1.out]; exact row_add hown', by rw [HS1.out], hb3⟩, by simp [intOf]; omega⟩
      | false =>
        by_cases hge : a ≤ A
        · have hd : decide (A ≥ a) = true := decide_eq_true hge
          by_cases he : A = a
          · subst he
            have HS1 := hide (show st A c l (k + 1) = (O ++ [(A, c)], true) by rw [HS.out]; simp [stp])
            have hq : (A != A) = false := by simp
            clear HS
            go_wp2_with (first
              | (at_builtin; refine wpList_append_own _ rfl _ _ 37 rfl w.heap.size 66 i0 (.agg #[.int .u32 0, .int .u8 0]) 2 8 Tryz.underlying37 hi hz0 hz1 hz2 rfl (by decide) _ _ _ rfl (hout.alloc _) ⟨wr.heap.size, 0, none⟩ 1 1 [.int .u32 A, .int .u8 c] rfl rfl (cell_pair_new _ _ _ _) (by simp [Value.oneCell']) (by unfold maxLen; omega) (by omega) (by simp; omega) ?_; intro v' w3 hown' hgrow hnil; have hb3 : Below w.heap.size w w3 := (hb.alloc hb.size _).grown hgrow (by have := hb.size; simp; omega) (fun j e => (hout.lt j e).1); have D0 := cell_below hb3 W0.out; have D1 := cell_below hb3 W1.out; have D2 := cell_below hb3 HC.out; have hs3 := hb3.size)
              | go_in)
            exact ⟨⟨k + 1, by go_num, by omega, by rw [HS1.out]; exact row_add hown', by rw [HS1.out], hb3⟩, by simp [intOf]; omega⟩
          · have HS1 := hide (show st a c l (k + 1) = (O ++ [(a, c)] ++ [(A, E)], true) by rw [HS.out]; simp [stp, he, hge])
            have hq : (A != a) = true := by simpa using he
            clear HS
            go_wp2_with (first
              | (at_builtin; refine wpList_append_own _ rfl _ _ 37 rfl w.heap.size 66 i0 (.agg #[.int .u32 0, .int .u8 0]) 2 8 Tryz.underlying37 hi hz0 hz1 hz2 rfl (by decide) _ _ _ rfl (hout.alloc _) ⟨wr.heap.size, 0, none⟩ 1 1 [.int .u32 a, .int .u8 c] rfl rfl (cell_pair_new _ _ _ _) (by simp [Value.oneCell']) (by unfold maxLen; omega) (by omega) (by simp; omega) ?_; intro v' w3 hown' hgrow hnil; have hb3 : Below w.heap.size w w3 := (hb.alloc hb.size _).grown hgrow (by have := hb.size; simp; omega) (fun j e => (hout.lt j e).1); have D0 := cell_below hb3 W0.out; have D1 := cell_below hb3 W1.out; have D2 := cell_below hb3 HC.out; have hs3 := hb3.size; have hown1 := row_add hown'; have hl1 : (O ++ [(a, c)]).length = O.length + 1 := (by simp); clear hout hown')
              | (at_builtin; refine wpList_append_own _ rfl _ _ 37 rfl w.heap.size 66 i0 (.agg #[.int .u32 0, .int .u8 0]) 2 8 Tryz.underlying37 hi hz0 hz1 hz2 rfl (by decide) _ _ _ rfl (hown1.alloc _) ⟨w3.heap.size, 0, none⟩ 1 1 [.int .u32 A, .int .u8 E] rfl rfl (cell_pair_new _ _ _ _) (by simp [Value.oneCell']) (by unfold maxLen; omega) (by omega) (by simp; omega) ?_; intro v2 w4 hown2 hgrow2 hnil)
              | go_in)
            have hb4 : Below w.heap.size w w4 := (hb3.alloc hb3.size _).grown hgrow2 (by have := hb3.size; simp; omega) (fun j e => (hown1.lt j e).1)
            exact ⟨⟨k + 1, by go_num, by omega, by rw [HS1.out]; exact row_add hown2, by rw [HS1.out], hb4⟩, by simp [intOf]; omega⟩
        · have HS1 := hide (show st a c l (k + 1) = (O ++ [(A, E)], false) by rw [HS.out]; simp [stp, hge]; omega)
          have hd : decide (A ≥ a) = false := decide_eq_false hge
          have hq : (A != a) = true := by simp; omega
          clear HS
          go_wp2_with (first
            | (at_builtin; refine wpList_append_own _ rfl _ _ 37 rfl w.heap.size 66 i0 (.agg #[.int .u32 0, .int .u8 0]) 2 8 Tryz.underlying37 hi hz0 hz1 hz2 rfl (by decide) _ _ _ rfl (hout.alloc _) ⟨wr.heap.size, 0, none⟩ 1 1 [.int .u32 A, .int .u8 E] rfl rfl (cell_pair_new _ _ _ _) (by simp [Value.oneCell']) (by unfold maxLen; omega) (by omega) (by simp; omega) ?_; intro v' w3 hown' hgrow hnil)
            | go_in)
          have hb3 : Below w.heap.size w w3 := (hb.alloc hb.size _).grown hgrow (by have := hb.size; simp; omega) (fun j e => (hout.lt j e).1)
          exact ⟨⟨k + 1, by go_num, by omega, by rw [HS1.out]; exact row_add hown', by rw [HS1.out], hb3⟩, by simp [intOf]; omega⟩
    · obtain rfl : k = l.length := by omega
      have HA := hide (stp_all a c l hr)
      have hst : st a c l l.length = l.foldl (stp a c) ([], decide (c = 0)) := by unfold st; rw [List.take_length]
      rw [← hst] at HA
      have hsl := st_len a c l l.length (Nat.le_refl _)
      have C2 := cell_below hb HC.out
      clear hst HZ HLIT
      generalize st a c l l.length = S at hout HA hsl ⊢
      obtain ⟨O, F⟩ := S
      simp only at hout hsl ⊢
      have hb3s := hb.size
      have C3 := ref_frozen hb HV.out
      cases F with
      | true =>
        obtain ⟨ad6, cp6, rfl⟩ := row_form hout
        go_wp2_with fail
        go_end0
        have hT : O = Mm.set l a c := HA.out
        rw [← hT]
        exact ⟨rfl, ref_stored HV.out hb hout (hT ▸ rise_set hr ⟨ha0, ha1⟩ ⟨hc0, hc1⟩) HB hB⟩
      | false =>
        go_wp2_with (first
          | (at_builtin; refine wpList_append_own _ rfl _ _ 37 rfl w.heap.size 66 i0 (.agg #[.int .u32 0, .int .u8 0]) 2 8 Tryz.underlying37 hi hz0 hz1 hz2 rfl (by decide) _ _ _ rfl (hout.alloc _) ⟨wr.heap.size, 0, none⟩ 1 1 [.int .u32 a, .int .u8 c] rfl rfl (cell_pair_new _ _ _ _) (by simp [Value.oneCell']) (by unfold maxLen; omega) (by omega) (by simp; omega) ?_; intro v' w3 hown' hgrow hnil; have hb3 : Below w.heap.size w w3 := (hb.alloc hb.size _).grown hgrow (by have := hb.size; simp; omega) (fun j e => (hout.lt j e).1); have D2 := cell_below hb3 HC.out; have D3 := ref_frozen hb3 HV.out; have hown1 := row_add hown'; obtain ⟨ad6, cp6, rfl⟩ := row_form hown1)
          | go_in)
        go_end0
        have hT : O ++ [(a, c)] = Mm.set l a c := HA.out
        have e1 : O.length + 1 = (O ++ [(a, c)]).length := by simp
        rw [← hT, e1]
        exact ⟨rfl, ref_stored HV.out hb3 hown1 (hT ▸ rise_set hr ⟨ha0, ha1⟩ ⟨hc0, hc1⟩) HB hB⟩
end Go.Proofs.YtilphdfobflbiaaGreat
namespace Go.Proofs.YtilphdfobflbiaaGreat
open Go.RowKit Go.Maps Mm

theorem rnew_any (w : World) : Calls Tryz.prog 15 #[] w fun e w' => ∃ k, e = .returned (.pointer (some ⟨k, 0, none⟩)) ∧ RefAt w' w.heap.size k [] ∧ k < w'.heap.size ∧ Below w.heap.size w w' := by
  go_enter Tryz.func15, Tryz.ntmps15
  go_wp2
  go_ret
  refine ⟨w.heap.size, rfl, ⟨⟨.slice none 0 0, ?_, World.ownsRow_nil _ _ _ _⟩, rise_nil, Nat.le_refl _⟩, by simp, (Below.refl _ _).alloc (Nat.le_refl _) _⟩
  exact World.alloc_heap_new w _

set_option maxHeartbeats 1000000 in
theorem rmput_any {B kb : Nat} {l : Cs} {a : Int} {s : ByteArray} (w : World) (h : RefAt w B kb l) (ha : 0 ≤ a ∧ a < 4294967296) (hs : s.size ≤ 65536) (hB : B ≤ w.heap.size) :
    Calls Tryz.prog 17 #[.pointer (some ⟨kb, 0, none⟩), .int .u32 a, .string s] w fun e w' => e = .returned (.tuple #[]) ∧ RefAt w' B kb (puts l a s.data.toList s.size) ∧ w.grownBy w' (some kb) := by
  obtain ⟨ha0, ha1⟩ := ha
  go_enter Tryz.func17, Tryz.ntmps17
  go_wp2
  go_loopw [6] (fun i wr => ∃ k : Nat, k ≤ s.size ∧ i = .int .i64 k ∧ RefAt wr B kb (puts l a s.data.toList k) ∧ w.grownBy wr (some kb)) (fun i _ => s.size - (intOf i).toNat)
  case atStart => exact ⟨0, by omega, rfl, h, ⟨rfl, rfl, rfl, Nat.le_refl _, fun _ _ _ => rfl⟩⟩
  case round =>
    obtain ⟨k, hk, rfl, hm, hg⟩ := hrel
    have hsz : B ≤ wr.heap.size := Nat.le_trans hB hg.size
    by_cases hlt : k < s.size
    · have hb := (s[k]).toNat_lt
      have HM := hide hm
      have HG := hide hg
      clear h hm hg
      go_wp2_with (go_at_call 34; refine (rset_any _ HM.out (by omega) (by omega) hsz).mono ?_; rintro e w2 ⟨rfl, hm2, hg2⟩)
      exact ⟨⟨k + 1, by omega, by go_num, puts_at l a s k hlt ▸ hm2, grown_trans HG.out hg2⟩, by simp [intOf]; omega⟩
    · go_wp2
      go_end0
      have e : s.size = k := by omega
      rw [e]; exact ⟨rfl, hm, hg⟩

theorem rstore_no {a n v : Int} (p : Value) (h : n ≠ 1 ∧ n ≠ 2 ∧ n ≠ 4) (w : World) : Calls Tryz.prog 56 #[p, .int .u32 a, .int .i64 n, .int .u32 v] w fun e w' => e = .returned (.int .i64 1) ∧ w' = w := by
  have g1 : (n != 1) = true := by simp [h.1]
  have g2 : (n != 2) = true := by simp [h.2.1]
  have g3 : (n != 4) = true := by simp [h.2.2]
  clear h
  go_enter Tryz.func56, Tryz.ntmps56
  go_wp2
  go_ret
  exact ⟨rfl, rfl⟩
theorem div_step (v : Int) (k : Nat) : v / 256 ^ k / 256 = v / 256 ^ (k + 1) := by
  rw [Int.pow_succ, Int.ediv_ediv_of_nonneg (Int.pow_nonneg (by omega))]
set_option maxHeartbeats 1000000 in
theorem rstore_any {B kb : Nat} {l : Cs} {a n v : Int} (w : World) (h : RefAt w B kb l) (ha : 0 ≤ a ∧ a < 4294967296) (hn : n = 1 ∨ n = 2 ∨ n = 4) (hv : 0 ≤ v ∧ v < 4294967296) (hB : B ≤ w.heap.size) :
    Calls Tryz.prog 56 #[.pointer (some ⟨kb, 0, none⟩), .int .u32 a, .int .i64 n, .int .u32 v] w fun e w' => e = .returned (.int .i64 0) ∧ RefAt w' B kb (sto l a v n.toNat) ∧ w.grownBy w' (some kb) := by
  obtain ⟨ha0, ha1⟩ := ha
  have hn1 : 1 ≤ n := by omega
  have hn4 : n ≤ 4 := by omega
  have hcase : (n != 1) = false ∨ ((n != 1) = true ∧ (n != 2) = false) ∨ ((n != 1) = true ∧ (n != 2) = true ∧ (n != 4) = false) := by
    rcases hn with rfl | rfl | rfl
    · exact .inl rfl
    · exact .inr (.inl ⟨rfl, rfl⟩)
    · exact .inr (.inr ⟨rfl, rfl, rfl⟩)
  clear hn
  rcases hcase with g1 | ⟨g1, g2⟩ | ⟨g1, g2, g3⟩
  all_goals
    go_enter Tryz.func56, Tryz.ntmps56
    go_wp2
    go_loopw [3, 9] (fun x i wr => ∃ k : Nat, (k : Int) ≤ n ∧ i = .int .i64 k ∧ x = .int .u32 (v / 256 ^ k) ∧ RefAt wr B kb (sto l a v k) ∧ w.grownBy wr (some kb)) (fun _ i _ => (n - intOf i).toNat)
    case atStart => exact ⟨0, by omega, rfl, by rw [Int.pow_zero, Int.ediv_one], h, ⟨rfl, rfl, rfl, Nat.le_refl _, fun _ _ _ => rfl⟩⟩
    case round =>
      obtain ⟨k, hk, rfl, rfl, hm, hg⟩ := hrel
      have hsz : B ≤ wr.heap.size := Nat.le_trans hB hg.size
      have HD := hide (div_step v k)
      have hx : 0 ≤ v / 256 ^ k ∧ v / 256 ^ k < 4294967296 := by
        have hp : (0 : Int) < 256 ^ k := Int.pow_pos (by omega)
        exact ⟨Int.ediv_nonneg hv.1 (Int.le_of_lt hp), Int.lt_of_le_of_lt (Int.ediv_le_self _ hv.1) hv.2⟩
      have HS : Hid (sto l a v (k + 1) = Mm.set (sto l a v k) ((a + k) % 4294967296) (v / 256 ^ k % 256)) := hide rfl
      obtain ⟨X, hX⟩ : ∃ X, v / 256 ^ k = X := ⟨_, rfl⟩
      rw [hX] at hx HD HS ⊢
      obtain ⟨hx0, hx1⟩ := hx
      have HM := hide hm
      have HG := hide hg
      clear h hm hg hX
      by_cases hlt : (k : Int) < n
      · go_wp2_with (go_at_call 34; refine (rset_any _ HM.out (by omega) (by omega) hsz).mono ?_; rintro e w2 ⟨rfl, hm2, hg2⟩)
        exact ⟨⟨k + 1, by omega, by go_num, by rw [← HD.out], by rw [HS.out]; exact hm2, grown_trans HG.out hg2⟩, by simp [intOf]; omega⟩
      · have hjn : n.toNat = k := by omega
        go_wp2
        go_ret
        exact ⟨rfl, HM.out, HG.out⟩
end Go.Proofs.YtilphdfobflbiaaGreat
namespace Go.Proofs.YtilphdfobflbiaaGreat
open Go.RowKit Go.Maps Mm

theorem RefAt.below {w w' : World} {B kb : Nat} {l : Cs} (h : RefAt w B kb l) (hb : Below w.heap.size w w') : RefAt w' B kb l := by
  obtain ⟨v, hv, hrow⟩ := h.got
  exact ⟨⟨v, (hb.block _ (heap_lt hv)).trans hv, hrow.kept (row := none) ⟨hb.os, hb.tape, hb.output, hb.size, fun k hk _ => hb.block k hk⟩ (by cases v.ownBlock <;> simp)⟩, h.rise, h.base⟩
theorem RefAt.mono {w : World} {B B' kb : Nat} {l : Cs} (h : RefAt w B kb l) (hb : B' ≤ B) : RefAt w B' kb l := by
  obtain ⟨v, hv, hrow⟩ := h.got
  exact ⟨⟨v, hv, World.ownsRow.mono hrow hb⟩, h.rise, Nat.le_trans hb h.base⟩
theorem RefAt.lt {w : World} {B kb : Nat} {l : Cs} (h : RefAt w B kb l) : kb < w.heap.size := by
  obtain ⟨v, hv, _⟩ := h.got
  exact heap_lt hv
/-- The two memories never meet. -/
theorem mem_apart {w : World} {B kb p m : Nat} {l l' : Cs} (h : RefAt w B kb l) (h' : MemAt w p m l') : p ≠ kb ∧ m ≠ kb := by
  obtain ⟨v, hv, _⟩ := h.got
  constructor
  · intro e; have := h'.box; rw [e, hv] at this; simp at this
  · intro e; obtain ⟨es, clock, hb, _⟩ := h'.own; rw [e, hv] at hb; cases hb
theorem RefAt.apart {w w' : World} {B kb p m : Nat} {l l' : Cs} (h : RefAt w B kb l) (h' : MemAt w p m l') (hg : w.grownBy w' (some m)) : RefAt w' B kb l := by
  have hne := mem_apart h h'
  obtain ⟨v, hv, hrow⟩ := h.got
  refine ⟨⟨v, (hg.block kb (heap_lt hv) (by simpa using fun e => hne.2 e.symm)).trans hv, hrow.kept hg ?_⟩, h.rise, h.base⟩
  rcases hrow.2 with ⟨rfl, _⟩ | ⟨g, cap, cur, rfl, _, hgb, _⟩
  · exact .inl rfl
  · refine .inr fun e => ?_
    obtain rfl : g = m := by simpa [Value.ownBlock] using e
    obtain ⟨es, clock, hb, _⟩ := h'.own
    rw [hgb] at hb; cases hb
theorem infoB1 : (Tryz.prog.info? 5).map (fun i => (i.zero, i.size, i.bytes)) = some (some (.int .u8 0), 1, 1) := by kernel_rfl
theorem cell_one_new (w : World) (x : Value) (t : TypeId) : ∀ j u, [x][j]? = some u → (w.alloc (.cells #[x] t)).cell? ((⟨w.heap.size, 0, none⟩ : Addr).add j) = some u := by
  intro j u hj
  match j, hj with
  | 0, hj => simp at hj; subst hj; simp [Addr.add]
end Go.Proofs.YtilphdfobflbiaaGreat
