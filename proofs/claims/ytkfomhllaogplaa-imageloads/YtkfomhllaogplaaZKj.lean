/-
  The document's own memory (a list of cells behind a pointer): what it is, New, at, Load.
  The document's memory: a byte set. First the plain list that its loop makes.
  The document's memory: New, Store, Put.
  The document's memory: Bytes.
-/
import Derived.Test.YtkfomhllaogplaaZKi
import Derived.OwnWalk
import Derived.Deep.RegionHeld3
import Derived.Deep.Onto
import Derived.Laws.IdiomStrings
namespace Go.Proofs.Ytkfomhllaogplaa
open Go.RowKit Go.Maps Mm

/-- The document's memory at kb: its list is a row of its own. -/
structure RefAt (w : World) (B kb : Nat) (l : Cs) : Prop where
  got : ∃ v, w.heap[kb]? = some (.cells #[v] 54) ∧ w.ownsRow B 69 2 v l.length (cellsOf l)
  rise : Rise l
  base : B ≤ kb
theorem heap_cell {w : World} {b : Nat} {v : Value} {t : TypeId} (h : w.heap[b]? = some (.cells #[v] t)) : w.cell? ⟨b, 0, none⟩ = some v := by
  unfold World.cell?; rw [h]; rfl

def hin (l : Cs) (a n : Int) : Nat → Int
  | 0 => 0
  | j + 1 => hin l a n j * 256 + Mm.look l ((a + (n - 1 - j)) % 4294967296)
theorem hin_range {l : Cs} (h : Rise l) (a n : Int) : ∀ j : Nat, 0 ≤ hin l a n j ∧ hin l a n j < 256 ^ j
  | 0 => by simp [hin]
  | j + 1 => by
    have ih := hin_range h a n j
    have := look_range h ((a + (n - 1 - j)) % 4294967296)
    unfold hin
    rw [Int.pow_succ]; omega
theorem hin_all (l : Cs) (a n : Int) (ha : 0 ≤ a ∧ a < 4294967296) (hn : n = 1 ∨ n = 2 ∨ n = 4) : hin l a n n.toNat = num l a n.toNat := by
  have e : (a + 0) % 4294967296 = a := by omega
  rcases hn with rfl | rfl | rfl
  · show 0 * 256 + Mm.look l ((a + (1 - 1 - 0)) % 4294967296) = 0 + Mm.look l ((a + ((0 : Nat) : Int)) % 4294967296) * 256 ^ 0
    rw [show (a + ((1 : Int) - 1 - 0)) = a + ((0 : Nat) : Int) by omega]; omega
  · rw [show (2 : Int).toNat = 2 from rfl, num_two l a ha]
    show (0 * 256 + Mm.look l ((a + (2 - 1 - 0)) % 4294967296)) * 256 + Mm.look l ((a + (2 - 1 - 1)) % 4294967296) = _
    rw [show (a + ((2 : Int) - 1 - 0)) = a + 1 by omega, show (a + ((2 : Int) - 1 - 1)) % 4294967296 = a by omega]; omega
  · rw [show (4 : Int).toNat = 4 from rfl, num_four l a ha]
    show (((0 * 256 + Mm.look l ((a + (4 - 1 - 0)) % 4294967296)) * 256 + Mm.look l ((a + (4 - 1 - 1)) % 4294967296)) * 256 + Mm.look l ((a + (4 - 1 - 2)) % 4294967296)) * 256 + Mm.look l ((a + (4 - 1 - 3)) % 4294967296) = _
    rw [show (a + ((4 : Int) - 1 - 0)) = a + 3 by omega, show (a + ((4 : Int) - 1 - 1)) = a + 2 by omega, show (a + ((4 : Int) - 1 - 2)) = a + 1 by omega, show (a + ((4 : Int) - 1 - 3)) % 4294967296 = a by omega]; omega
end Go.Proofs.Ytkfomhllaogplaa
namespace Go.Proofs.Ytkfomhllaogplaa
open Go.RowKit Go.Maps Mm

def stp (a c : Int) (s : Cs × Bool) (p : Int × Int) : Cs × Bool :=
  let t := if s.2 = false ∧ a ≤ p.1 then (s.1 ++ [(a, c)], true) else s
  (if p.1 = a then t.1 else t.1 ++ [p], t.2)
def fin (a c : Int) (s : Cs × Bool) : Cs := if s.2 then s.1 else s.1 ++ [(a, c)]
theorem stp_put (a c : Int) : ∀ (l o : Cs), l.foldl (stp a c) (o, true) = (o ++ del a l, true)
  | [], o => by simp [del]
  | p :: r, o => by
    have e : stp a c (o, true) p = (if p.1 = a then o else o ++ [p], true) := by simp [stp]
    rw [List.foldl_cons, e, stp_put a c r]
    unfold del
    by_cases h : p.1 = a
    · simp [h]
    · simp [h]
theorem del_above {a : Int} {l : Cs} (h : ∀ p ∈ l, a < p.1) : del a l = l := by
  unfold del
  rw [List.filter_eq_self]
  intro p hp
  have := h p hp
  simp; omega
theorem stp_ins (a c : Int) : ∀ (l o : Cs), Rise l → fin a c (l.foldl (stp a c) (o, false)) = o ++ ins a c l
  | [], o, _ => by simp [fin, ins]
  | p :: r, o, h => by
    rw [List.foldl_cons]
    by_cases h1 : a ≤ p.1
    · have e : stp a c (o, false) p = (if p.1 = a then o ++ [(a, c)] else o ++ [(a, c)] ++ [p], true) := by simp [stp, h1]
      have hd : del a r = r := del_above fun q hq => by have := h.head q hq; omega
      rw [e, stp_put, hd]
      unfold ins
      by_cases h2 : p.1 = a
      · rw [if_pos h2, if_neg (by omega), if_pos h2]; simp [fin]
      · rw [if_neg h2, if_pos (by omega)]; simp [fin]
    · have e : stp a c (o, false) p = (o ++ [p], false) := by
        simp only [stp]
        rw [if_neg (by omega), if_neg (fun hh => h1 hh.2)]
      rw [e, stp_ins a c r _ h.tail]
      conv => rhs; unfold ins
      rw [if_neg (by omega), if_neg (by omega)]; simp
theorem stp_all (a c : Int) (l : Cs) (h : Rise l) : fin a c (l.foldl (stp a c) ([], decide (c = 0))) = Mm.set l a c := by
  unfold Mm.set
  by_cases hc : c = 0
  · rw [if_pos hc, decide_eq_true hc, stp_put]; simp [fin]
  · rw [if_neg hc, decide_eq_false hc, stp_ins a c l [] h]; simp
def st (a c : Int) (l : Cs) (k : Nat) : Cs × Bool := (l.take k).foldl (stp a c) ([], decide (c = 0))
theorem st_succ (a c : Int) (l : Cs) (k : Nat) (hk : k < l.length) : st a c l (k + 1) = stp a c (st a c l k) l[k] := by
  unfold st
  rw [(List.take_append_getElem hk).symm, List.foldl_append]; rfl
theorem stp_len (a c : Int) (s : Cs × Bool) (p : Int × Int) : (stp a c s p).1.length ≤ s.1.length + 2 := by
  unfold stp
  simp only
  split <;> split <;> simp <;> omega
theorem st_len (a c : Int) (l : Cs) : ∀ k, k ≤ l.length → (st a c l k).1.length ≤ 2 * k
  | 0, _ => by simp [st]
  | k + 1, hk => by
    have := st_len a c l k (by omega)
    have := stp_len a c (st a c l k) l[k]
    rw [st_succ a c l k (by omega)]; omega
theorem row_add {w : World} {B : Nat} {v : Value} {l : Cs} {p q : Int} (h : w.ownsRow B 69 2 v (l.length + 1) (cellsOf l ++ [.int .u32 p, .int .u8 q])) : w.ownsRow B 69 2 v (l ++ [(p, q)]).length (cellsOf (l ++ [(p, q)])) := by
  have e : cellsOf l ++ [.int .u32 p, .int .u8 q] = cellsOf (l ++ [(p, q)]) := by simp [cellsOf]
  rw [← e, List.length_append]; exact h
theorem row_form {w : World} {B : Nat} {v : Value} {n : Nat} {xs : List Value} (h : w.ownsRow B 69 2 v n xs) : ∃ ad cp, v = .slice ad n cp := by
  rcases h.2 with ⟨hx, h0⟩ | ⟨g, cap', cur, hx, _⟩
  · rw [h0]; exact ⟨_, _, hx⟩
  · exact ⟨_, _, hx⟩
theorem heap_lt {w : World} {b : Nat} {o : Obj} (h : w.heap[b]? = some o) : b < w.heap.size := (Array.getElem?_eq_some_iff.1 h).1
theorem ref_frozen {w w' : World} {b : Nat} {v : Value} {t : TypeId} (hb : Below w.heap.size w w') (h : w.heap[b]? = some (.cells #[v] t)) : w'.frozen? ⟨b, 0, none⟩ = false := by
  have e : w'.heap[b]? = some (.cells #[v] t) := (hb.block _ (heap_lt h)).trans h
  unfold World.frozen?
  simp [e]
theorem ref_stored {w w' : World} {B kb : Nat} {v u : Value} {l' : Cs} (h : w.heap[kb]? = some (.cells #[v] 54)) (hb : Below w.heap.size w w') (hrow : w'.ownsRow w.heap.size 69 2 u l'.length (cellsOf l')) (hr : Rise l') (hB : B ≤ kb) (hB' : B ≤ w.heap.size) :
    RefAt (w'.setCell ⟨kb, 0, none⟩ u) B kb l' ∧ w.grownBy (w'.setCell ⟨kb, 0, none⟩ u) (some kb) := by
  have hl := heap_lt h
  have e : w'.heap[kb]? = some (.cells #[v] 54) := (hb.block _ hl).trans h
  refine ⟨⟨⟨u, ?_, ?_⟩, hr, hB⟩, ?_⟩
  · have := heap_setCell_same w' kb 0 #[v] 54 u e
    simpa using this
  · exact World.ownsRow.mono (ownsRow_setCell_below hrow (a := ⟨kb, 0, none⟩) hl u) hB'
  · exact ⟨hb.os, hb.tape, hb.output, by simpa using hb.size, fun k hk hne => (heap_setCell_other w' ⟨kb, 0, none⟩ k u (by simpa using hne)).trans (hb.block k hk)⟩
theorem cellsOf_add (l : Cs) (p : Int × Int) : cellsOf l ++ [.int .u32 p.1, .int .u8 p.2] = cellsOf (l ++ [p]) := by simp [cellsOf]

set_option maxHeartbeats 2000000 in
set_option maxRecDepth 100000 in
theorem rset_any {B kb : Nat} {l : Cs} {a c : Int} (w : World) (h : RefAt w B kb l) (ha : 0 ≤ a ∧ a < 4294967296) (hc : 0 ≤ c ∧ c ≤ 255) (hB : B ≤ w.heap.size) :
    Calls Try.prog 53 #[.pointer (some ⟨kb, 0, none⟩), .int .u32 a, .int .u8 c] w fun e w' => e = .returned (.tuple #[]) ∧ RefAt w' B kb (Mm.set l a c) ∧ w.grownBy w' (some kb) := by
  obtain ⟨v, hv, hrow⟩ := h.got
  have hr := h.rise
  have HB := h.base
  have hcell := heap_cell hv
  have hlen := hr.length
  obtain ⟨i0, hi, hz0, hz1, hz2⟩ := info_parts infoCell
  obtain ⟨ad, cp, rfl⟩ : ∃ ad cp, v = .slice ad l.length cp := by
    rcases hrow.2 with ⟨hx, h0⟩ | ⟨g, cap', cur, hx, _⟩
    · rw [h0]; exact ⟨_, _, hx⟩
    · exact ⟨_, _, hx⟩
  have hlit : ∀ W : World, w.heap.size ≤ W.heap.size → (W.alloc (.cells #[] 69)).ownsRow w.heap.size 69 2 (.slice (some ⟨W.heap.size, 0, none⟩) 0 0) 0 (cellsOf []) := fun W hW => World.ownsRow_lit W #[] 0 hW (by unfold maxLen; omega) rfl
  have HLIT := hide (hlit w (Nat.le_refl _))
  obtain ⟨ha0, ha1⟩ := ha
  obtain ⟨hc0, hc1⟩ := hc
  have hz : (c == 0) = decide (c = 0) := by by_cases h : c = 0 <;> simp [h]
  have HZ := hide hz
  have HV := hide hv
  have HROW := hide hrow
  have HC := hide hcell
  clear hlit h hz hv hrow hcell
  go_enter Try.func53, Try.ntmps53
  go_wp2
  go_loopw [6, 7, 8] (fun o f u W => ∃ k : Nat, u = .int .i64 k ∧ k ≤ l.length ∧ W.ownsRow w.heap.size 69 2 o (st a c l k).1.length (cellsOf (st a c l k).1) ∧ f = .bool (st a c l k).2 ∧ Below w.heap.size w W) (fun _ _ u _ => l.length - (intOf u).toNat)
  case atStart => exact ⟨0, rfl, Nat.zero_le _, HLIT.out, by rw [HZ.out]; rfl, (Below.refl _ _).alloc (Nat.le_refl _) _⟩
  case round =>
    obtain ⟨k, rfl, hk, hout, rfl, hb⟩ := hrel
    by_cases hlt : k < l.length
    · obtain ⟨g, cp', hv, hg1⟩ : ∃ g cp', Value.slice ad l.length cp = .slice (some ⟨g, 0, none⟩) l.length cp' ∧ B ≤ g := by
        rcases HROW.out.2 with ⟨_, h0⟩ | ⟨g, cap', cur, hv, hb', _⟩
        · omega
        · exact ⟨g, cap', hv, hb'⟩
      simp only [Value.slice.injEq] at hv
      obtain ⟨rfl, _, rfl⟩ := hv
      obtain ⟨x0, y0⟩ := cellsOf_at l k hlt
      have W0 := hide ((HROW.out.cellAt (k * 2) (by omega)).trans x0)
      have W1 := hide ((HROW.out.cellAt (k * 2 + 1) (by omega)).trans y0)
      have C0 := cell_below hb W0.out
      have C1 := cell_below hb W1.out
      have C2 := cell_below hb HC.out
      have HS := hide (st_succ a c l k hlt)
      have hsl := st_len a c l k hk
      obtain ⟨A, hA⟩ : ∃ A, A = (l[k]).1 := ⟨_, rfl⟩
      obtain ⟨E, hE⟩ : ∃ E, E = (l[k]).2 := ⟨_, rfl⟩
      have HP := hide (show l[k] = (A, E) by rw [hA, hE])
      rw [HP.out] at HS
      rw [← hA] at C0 W0
      rw [← hE] at C1 W1
      clear hA hE x0 y0 HLIT HZ
      generalize st a c l k = S at hout HS hsl ⊢
      obtain ⟨O, F⟩ := S
      simp only at hout hsl ⊢
      have hb3s := hb.size
      cases F with
      | true =>
        by_cases he : A = a
        · subst he
          have HS1 := hide (show st A c l (k + 1) = (O, true) by rw [HS.out]; simp [stp])
          have hq : (A != A) = false := by simp
          clear HS
          go_wp2_with fail
          exact ⟨⟨k + 1, by go_num, by omega, by rw [HS1.out]; exact hout, by rw [HS1.out], hb⟩, by simp [intOf]; omega⟩
        · have HS1 := hide (show st a c l (k + 1) = (O ++ [(A, E)], true) by rw [HS.out]; simp [stp, he])
          have hq : (A != a) = true := by simpa using he
          clear HS
          go_wp2_with (first
            | (at_builtin; refine wpList_append_own _ rfl _ _ 51 rfl w.heap.size 69 i0 (.agg #[.int .u32 0, .int .u8 0]) 2 8 Try.underlying51 hi hz0 hz1 hz2 rfl (by decide) _ _ _ rfl (hout.alloc _) ⟨wr.heap.size, 0, none⟩ 1 1 [.int .u32 A, .int .u8 E] rfl rfl (cell_pair_new _ _ _ _) (by simp [Value.oneCell']) (by unfold maxLen; omega) (by omega) (by simp; omega) ?_; intro v' w3 hown' hgrow hnil)
            | go_in)
          have hb3 : Below w.heap.size w w3 := (hb.alloc hb.size _).grown hgrow (by have := hb.size; simp; omega) (fun j e => (hout.lt j e).1)
          exact ⟨⟨k + 1, by go_num, by omega, by rw [HS1.out]; exact row_add hown', by rw [HS1.out], hb3⟩, by simp [intOf]; omega⟩
      | false =>
        by_cases hge : a ≤ A
        · have hd : decide (A ≥ a) = true := decide_eq_true hge
          by_cases he : A = a
          · subst he
            have HS1 := hide (show st A c l (k + 1) = (O ++ [(A, c)], true) by rw [HS.out]; simp [stp])
            have hq : (A != A) = false := by simp
            clear HS
            go_wp2_with (first
              | (at_builtin; refine wpList_append_own _ rfl _ _ 51 rfl w.heap.size 69 i0 (.agg #[.int .u32 0, .int .u8 0]) 2 8 Try.underlying51 hi hz0 hz1 hz2 rfl (by decide) _ _ _ rfl (hout.alloc _) ⟨wr.heap.size, 0, none⟩ 1 1 [.int .u32 A, .int .u8 c] rfl rfl (cell_pair_new _ _ _ _) (by simp [Value.oneCell']) (by unfold maxLen; omega) (by omega) (by simp; omega) ?_; intro v' w3 hown' hgrow hnil; have hb3 : Below w.heap.size w w3 := (hb.alloc hb.size _).grown hgrow (by have := hb.size; simp; omega) (fun j e => (hout.lt j e).1); have D0 := cell_below hb3 W0.out; have D1 := cell_below hb3 W1.out; have D2 := cell_below hb3 HC.out; have hs3 := hb3.size)
              | go_in)
            exact ⟨⟨k + 1, by go_num, by omega, by rw [HS1.out]; exact row_add hown', by rw [HS1.out], hb3⟩, by simp [intOf]; omega⟩
          · have HS1 := hide (show st a c l (k + 1) = (O ++ [(a, c)] ++ [(A, E)], true) by rw [HS.out]; simp [stp, he, hge])
            have hq : (A != a) = true := by simpa using he
            clear HS
            go_wp2_with (first
              | (at_builtin; refine wpList_append_own _ rfl _ _ 51 rfl w.heap.size 69 i0 (.agg #[.int .u32 0, .int .u8 0]) 2 8 Try.underlying51 hi hz0 hz1 hz2 rfl (by decide) _ _ _ rfl (hout.alloc _) ⟨wr.heap.size, 0, none⟩ 1 1 [.int .u32 a, .int .u8 c] rfl rfl (cell_pair_new _ _ _ _) (by simp [Value.oneCell']) (by unfold maxLen; omega) (by omega) (by simp; omega) ?_; intro v' w3 hown' hgrow hnil; have hb3 : Below w.heap.size w w3 := (hb.alloc hb.size _).grown hgrow (by have := hb.size; simp; omega) (fun j e => (hout.lt j e).1); have D0 := cell_below hb3 W0.out; have D1 := cell_below hb3 W1.out; have D2 := cell_below hb3 HC.out; have hs3 := hb3.size; have hown1 := row_add hown'; have hl1 : (O ++ [(a, c)]).length = O.length + 1 := (by simp); clear hout hown')
              | (at_builtin; refine wpList_append_own _ rfl _ _ 51 rfl w.heap.size 69 i0 (.agg #[.int .u32 0, .int .u8 0]) 2 8 Try.underlying51 hi hz0 hz1 hz2 rfl (by decide) _ _ _ rfl (hown1.alloc _) ⟨w3.heap.size, 0, none⟩ 1 1 [.int .u32 A, .int .u8 E] rfl rfl (cell_pair_new _ _ _ _) (by simp [Value.oneCell']) (by unfold maxLen; omega) (by omega) (by simp; omega) ?_; intro v2 w4 hown2 hgrow2 hnil)
              | go_in)
            have hb4 : Below w.heap.size w w4 := (hb3.alloc hb3.size _).grown hgrow2 (by have := hb3.size; simp; omega) (fun j e => (hown1.lt j e).1)
            exact ⟨⟨k + 1, by go_num, by omega, by rw [HS1.out]; exact row_add hown2, by rw [HS1.out], hb4⟩, by simp [intOf]; omega⟩
        · have HS1 := hide (show st a c l (k + 1) = (O ++ [(A, E)], false) by rw [HS.out]; simp [stp, hge]; omega)
          have hd : decide (A ≥ a) = false := decide_eq_false hge
          have hq : (A != a) = true := by simp; omega
          clear HS
          go_wp2_with (first
            | (at_builtin; refine wpList_append_own _ rfl _ _ 51 rfl w.heap.size 69 i0 (.agg #[.int .u32 0, .int .u8 0]) 2 8 Try.underlying51 hi hz0 hz1 hz2 rfl (by decide) _ _ _ rfl (hout.alloc _) ⟨wr.heap.size, 0, none⟩ 1 1 [.int .u32 A, .int .u8 E] rfl rfl (cell_pair_new _ _ _ _) (by simp [Value.oneCell']) (by unfold maxLen; omega) (by omega) (by simp; omega) ?_; intro v' w3 hown' hgrow hnil)
            | go_in)
          have hb3 : Below w.heap.size w w3 := (hb.alloc hb.size _).grown hgrow (by have := hb.size; simp; omega) (fun j e => (hout.lt j e).1)
          exact ⟨⟨k + 1, by go_num, by omega, by rw [HS1.out]; exact row_add hown', by rw [HS1.out], hb3⟩, by simp [intOf]; omega⟩
    · obtain rfl : k = l.length := by omega
      have HA := hide (stp_all a c l hr)
      have hst : st a c l l.length = l.foldl (stp a c) ([], decide (c = 0)) := by unfold st; rw [List.take_length]
      rw [← hst] at HA
      have hsl := st_len a c l l.length (Nat.le_refl _)
      have C2 := cell_below hb HC.out
      clear hst HZ HLIT
      generalize st a c l l.length = S at hout HA hsl ⊢
      obtain ⟨O, F⟩ := S
      simp only at hout hsl ⊢
      have hb3s := hb.size
      have C3 := ref_frozen hb HV.out
      cases F with
      | true =>
        obtain ⟨ad6, cp6, rfl⟩ := row_form hout
        go_wp2_with fail
        go_end0
        have hT : O = Mm.set l a c := HA.out
        rw [← hT]
        exact ⟨rfl, ref_stored HV.out hb hout (hT ▸ rise_set hr ⟨ha0, ha1⟩ ⟨hc0, hc1⟩) HB hB⟩
      | false =>
        go_wp2_with (first
          | (at_builtin; refine wpList_append_own _ rfl _ _ 51 rfl w.heap.size 69 i0 (.agg #[.int .u32 0, .int .u8 0]) 2 8 Try.underlying51 hi hz0 hz1 hz2 rfl (by decide) _ _ _ rfl (hout.alloc _) ⟨wr.heap.size, 0, none⟩ 1 1 [.int .u32 a, .int .u8 c] rfl rfl (cell_pair_new _ _ _ _) (by simp [Value.oneCell']) (by unfold maxLen; omega) (by omega) (by simp; omega) ?_; intro v' w3 hown' hgrow hnil; have hb3 : Below w.heap.size w w3 := (hb.alloc hb.size _).grown hgrow (by have := hb.size; simp; omega) (fun j e => (hout.lt j e).1); have D2 := cell_below hb3 HC.out; have D3 := ref_frozen hb3 HV.out; have hown1 := row_add hown'; obtain ⟨ad6, cp6, rfl⟩ := row_form hown1)
          | go_in)
        go_end0
        have hT : O ++ [(a, c)] = Mm.set l a c := HA.out
        have e1 : O.length + 1 = (O ++ [(a, c)]).length := by simp
        rw [← hT, e1]
        exact ⟨rfl, ref_stored HV.out hb3 hown1 (hT ▸ rise_set hr ⟨ha0, ha1⟩ ⟨hc0, hc1⟩) HB hB⟩
end Go.Proofs.Ytkfomhllaogplaa
namespace Go.Proofs.Ytkfomhllaogplaa
open Go.RowKit Go.Maps Mm

theorem rnew_any (w : World) : Calls Try.prog 37 #[] w fun e w' => ∃ k, e = .returned (.pointer (some ⟨k, 0, none⟩)) ∧ RefAt w' w.heap.size k [] ∧ k < w'.heap.size ∧ Below w.heap.size w w' := by
  go_enter Try.func37, Try.ntmps37
  go_wp2
  go_ret
  refine ⟨w.heap.size, rfl, ⟨⟨.slice none 0 0, ?_, World.ownsRow_nil _ _ _ _⟩, rise_nil, Nat.le_refl _⟩, by simp, (Below.refl _ _).alloc (Nat.le_refl _) _⟩
  exact World.alloc_heap_new w _

set_option maxHeartbeats 1000000 in
theorem rmput_any {B kb : Nat} {l : Cs} {a : Int} {s : ByteArray} (w : World) (h : RefAt w B kb l) (ha : 0 ≤ a ∧ a < 4294967296) (hs : s.size ≤ 65536) (hB : B ≤ w.heap.size) :
    Calls Try.prog 38 #[.pointer (some ⟨kb, 0, none⟩), .int .u32 a, .string s] w fun e w' => e = .returned (.tuple #[]) ∧ RefAt w' B kb (puts l a s.data.toList s.size) ∧ w.grownBy w' (some kb) := by
  obtain ⟨ha0, ha1⟩ := ha
  go_enter Try.func38, Try.ntmps38
  go_wp2
  go_loopw [6] (fun i wr => ∃ k : Nat, k ≤ s.size ∧ i = .int .i64 k ∧ RefAt wr B kb (puts l a s.data.toList k) ∧ w.grownBy wr (some kb)) (fun i _ => s.size - (intOf i).toNat)
  case atStart => exact ⟨0, by omega, rfl, h, ⟨rfl, rfl, rfl, Nat.le_refl _, fun _ _ _ => rfl⟩⟩
  case round =>
    obtain ⟨k, hk, rfl, hm, hg⟩ := hrel
    have hsz : B ≤ wr.heap.size := Nat.le_trans hB hg.size
    by_cases hlt : k < s.size
    · have hb := (s[k]).toNat_lt
      have HM := hide hm
      have HG := hide hg
      clear h hm hg
      go_wp2_with (go_at_call 53; refine (rset_any _ HM.out (by omega) (by omega) hsz).mono ?_; rintro e w2 ⟨rfl, hm2, hg2⟩)
      exact ⟨⟨k + 1, by omega, by go_num, puts_at l a s k hlt ▸ hm2, grown_trans HG.out hg2⟩, by simp [intOf]; omega⟩
    · go_wp2
      go_end0
      have e : s.size = k := by omega
      rw [e]; exact ⟨rfl, hm, hg⟩

theorem div_step (v : Int) (k : Nat) : v / 256 ^ k / 256 = v / 256 ^ (k + 1) := by
  rw [Int.pow_succ, Int.ediv_ediv_of_nonneg (Int.pow_nonneg (by omega))]
end Go.Proofs.Ytkfomhllaogplaa
namespace Go.Proofs.Ytkfomhllaogplaa
open Go.RowKit Go.Maps Mm

theorem RefAt.below {w w' : World} {B kb : Nat} {l : Cs} (h : RefAt w B kb l) (hb : Below w.heap.size w w') : RefAt w' B kb l := by
  obtain ⟨v, hv, hrow⟩ := h.got
  exact ⟨⟨v, (hb.block _ (heap_lt hv)).trans hv, hrow.kept (row := none) ⟨hb.os, hb.tape, hb.output, hb.size, fun k hk _ => hb.block k hk⟩ (by cases v.ownBlock <;> simp)⟩, h.rise, h.base⟩
theorem RefAt.mono {w : World} {B B' kb : Nat} {l : Cs} (h : RefAt w B kb l) (hb : B' ≤ B) : RefAt w B' kb l := by
  obtain ⟨v, hv, hrow⟩ := h.got
  exact ⟨⟨v, hv, World.ownsRow.mono hrow hb⟩, h.rise, Nat.le_trans hb h.base⟩
theorem RefAt.lt {w : World} {B kb : Nat} {l : Cs} (h : RefAt w B kb l) : kb < w.heap.size := by
  obtain ⟨v, hv, _⟩ := h.got
  exact heap_lt hv
/-- The two memories never meet. -/
theorem mem_apart {w : World} {B kb p m : Nat} {l l' : Cs} (h : RefAt w B kb l) (h' : MemAt w p m l') : p ≠ kb ∧ m ≠ kb := by
  obtain ⟨v, hv, _⟩ := h.got
  constructor
  · intro e; have := h'.box; rw [e, hv] at this; simp at this
  · intro e; obtain ⟨es, clock, hb, _⟩ := h'.own; rw [e, hv] at hb; cases hb
theorem RefAt.apart {w w' : World} {B kb p m : Nat} {l l' : Cs} (h : RefAt w B kb l) (h' : MemAt w p m l') (hg : w.grownBy w' (some m)) : RefAt w' B kb l := by
  have hne := mem_apart h h'
  obtain ⟨v, hv, hrow⟩ := h.got
  refine ⟨⟨v, (hg.block kb (heap_lt hv) (by simpa using fun e => hne.2 e.symm)).trans hv, hrow.kept hg ?_⟩, h.rise, h.base⟩
  rcases hrow.2 with ⟨rfl, _⟩ | ⟨g, cap, cur, rfl, _, hgb, _⟩
  · exact .inl rfl
  · refine .inr fun e => ?_
    obtain rfl : g = m := by simpa [Value.ownBlock] using e
    obtain ⟨es, clock, hb, _⟩ := h'.own
    rw [hgb] at hb; cases hb
theorem infoB1 : (Try.prog.info? 5).map (fun i => (i.zero, i.size, i.bytes)) = some (some (.int .u8 0), 1, 1) := by kernel_rfl
theorem cell_one_new (w : World) (x : Value) (t : TypeId) : ∀ j u, [x][j]? = some u → (w.alloc (.cells #[x] t)).cell? ((⟨w.heap.size, 0, none⟩ : Addr).add j) = some u := by
  intro j u hj
  match j, hj with
  | 0, hj => simp at hj; subst hj; simp [Addr.add]
theorem bytes_string {w : World} {B : Nat} {v : Value} {bs : List UInt8} (h : w.ownsRow B 5 1 v bs.length (Lib.byteCells bs)) :
    (convert 58 9 v).run Try.prog w = .ok (.string ⟨bs.toArray⟩) w := by
  rcases h.2 with ⟨rfl, h0⟩ | ⟨g, cap, cur, rfl, _⟩
  · obtain rfl : bs = [] := List.eq_nil_of_length_eq_zero h0
    rw [run_convert_bytes_string w 58 9 5 none 0 0 Try.underlying58 Try.underlying5 Try.underlying9]
    rfl
  · refine run_convert_bytes_back (P := Try.prog) w 58 9 5 ⟨g, 0, none⟩ cap bs Try.underlying58 Try.underlying5 Try.underlying9 fun j hj => ?_
    refine h.cells (g := g) rfl j _ ?_
    simp [Lib.byteCells, hj]

end Go.Proofs.Ytkfomhllaogplaa
