/-
  Cells of a memory: a new list of all bytes that are not 0, by rising addresses.
-/
import Derived.Test.YtkfomhllaogplaaZSh
import Derived.Test.YtkfomhllaogplaaMC
import Derived.Laws.OwnMore
namespace Go.Proofs.Ytkfomhllaogplaa
open Go.RowKit Go.Maps Mm

namespace Mm
def cellsOf (l : Cs) : List Value := l.flatMap fun p => [.int .u32 p.1, .int .u8 p.2]
theorem cellsOf_len (l : Cs) : (cellsOf l).length = l.length * 2 := by
  induction l with
  | nil => rfl
  | cons p r ih => unfold cellsOf at ih ⊢; rw [List.flatMap_cons, List.length_append, ih]; simp; omega
theorem cellsOf_app (l r : Cs) : cellsOf (l ++ r) = cellsOf l ++ cellsOf r := by simp [cellsOf]
theorem cellsOf_snoc (l : Cs) (k : Nat) (h : k < l.length) : cellsOf (l.take (k + 1)) = cellsOf (l.take k) ++ [.int .u32 l[k].1, .int .u8 l[k].2] := by
  rw [List.take_succ_eq_append_getElem h, cellsOf_app]; rfl
end Mm

theorem infoCell : (Try.prog.info? 69).map (fun i => (i.zero, i.size, i.bytes)) = some (some (.agg #[.int .u32 0, .int .u8 0]), 2, 8) := by kernel_rfl

theorem cell_pair_new (w : World) (x y : Value) (t : TypeId) : ∀ j u, [x, y][j]? = some u → (w.alloc (.cells #[x, y] t)).cell? ((⟨w.heap.size, 0, none⟩ : Addr).add j) = some u := by
  intro j u hj
  match j, hj with
  | 0, hj => simp at hj; subst hj; simp [Addr.add]
  | 1, hj => simp at hj; subst hj; simp [Addr.add]

theorem rows_apart {w : World} {b b' e e' s s' n n' : Nat} {v v' : Value} {xs xs' : List Value} (h : w.ownsRow b e s v n xs) (h' : w.ownsRow b' e' s' v' n' xs') (hne : e ≠ e') : v.ownBlock = none ∨ v.ownBlock ≠ v'.ownBlock := by
  rcases h.2 with ⟨rfl, _⟩ | ⟨g, cap, cur, rfl, _, hb, _⟩
  · exact .inl rfl
  · refine .inr fun e1 => ?_
    rcases h'.2 with ⟨rfl, _⟩ | ⟨g', cap', cur', rfl, _, hb', _⟩
    · simp [Value.ownBlock] at e1
    · obtain rfl : g = g' := by simpa [Value.ownBlock] using e1
      rw [hb] at hb'
      injection hb' with h1
      injection h1 with h2 h3
      exact hne h3

theorem owns_row_at {w : World} {base e g n cap : Nat} {l : Cs} (h : w.ownsRow base e 1 (.slice (some ⟨g, 0, none⟩) n cap) n (l.map fun p => U p.1)) (k : Nat) (hk : k < l.length) (hn : n = l.length) : w.cell? ⟨g, k, none⟩ = some (.int .u32 l[k].1) := by
  rw [h.cellAt k (by omega)]
  simp [hk]

set_option maxHeartbeats 2000000 in
set_option maxRecDepth 100000 in
theorem cells_any {pb bm : Nat} {l : Cs} (w : World) (h : MemAt w pb bm l) :
    Calls Try.prog 22 #[.pointer (some ⟨pb, 0, none⟩)] w fun e w' => ∃ v : Value, e = .returned v ∧ w'.ownsRow w.heap.size 69 2 v l.length (cellsOf l) ∧ Below w.heap.size w w' := by
  have c0 := h.cell
  have hL := h.rise.length
  obtain ⟨i0, hi, hz0, hz1, hz2⟩ := info_parts infoCell
  go_enter Try.func22, Try.ntmps22
  go_wp2_with fail
  refine (keysOf_u (some bm) w).mono ?_
  rintro e w1 ⟨rfl, rfl⟩
  go_wp2_with fail
  refine (sorted_u w.heap.size bm l h.rise (w.alloc (.cells #[.map (some bm)] 79)) (by simp) (by simp) (h.own.alloc _)).mono ?_
  rintro e w2 ⟨sv, rfl, hs2, hb2⟩
  have hb0 : Below w.heap.size w w2 := ((Below.refl _ w).alloc (Nat.le_refl _) _).trans (hb2.mono (by simp))
  have hs0 : w2.ownsRow w.heap.size 22 1 sv l.length (l.map fun p => U p.1) := by
    refine ⟨hs2.1, ?_⟩
    rcases hs2.2 with h0 | ⟨g, cap, cur, h1, h2, h3⟩
    · exact .inl h0
    · exact .inr ⟨g, cap, cur, h1, by simp at h2; omega, h3⟩
  clear hs2 hb2
  rcases hs0.2 with ⟨rfl, hl0⟩ | ⟨gs, cap, cur, rfl, hbase, _⟩
  · obtain rfl : l = [] := List.eq_nil_of_length_eq_zero hl0
    go_wp2
    go_loopw [3, 13] (fun v u W => v = .slice none 0 0 ∧ u = .int .i64 0 ∧ W = w2) (fun _ _ _ => 0)
    case atStart => exact ⟨rfl, rfl, rfl⟩
    case round =>
      obtain ⟨rfl, rfl, rfl⟩ := hrel
      go_wp2
      go_ret
      exact ⟨_, rfl, World.ownsRow_nil _ _ _ _, hb0⟩
  · go_wp2
    go_loopw [3, 13] (fun v u W => ∃ k : Nat, u = .int .i64 k ∧ k ≤ l.length ∧ W.ownsRow w.heap.size 69 2 v k (cellsOf (l.take k)) ∧ W.ownsRow w.heap.size 22 1 (.slice (some ⟨gs, 0, none⟩) l.length cap) l.length (l.map fun p => U p.1) ∧ Below w.heap.size w W) (fun _ u _ => l.length - (intOf u).toNat)
    case atStart => exact ⟨0, rfl, Nat.zero_le _, World.ownsRow_nil _ _ _ _, hs0, hb0⟩
    case round =>
      clear hs0 hb0
      obtain ⟨k, rfl, hk, hrow, hs, hb⟩ := hrel
      have hm := h.below hb
      have cm := hm.cell
      by_cases hlt : k < l.length
      · have hck := owns_row_at hs k hlt rfl
        have hok := h.rise.ok l[k] (List.getElem_mem hlt)
        obtain ⟨p, hp⟩ : ∃ p, p = l[k] := ⟨_, rfl⟩
        have hlk := look_mem h.rise (p := p) (by rw [hp]; exact List.getElem_mem hlt)
        have HSN := hide (cellsOf_snoc l k hlt)
        rw [← hp] at hck hok HSN
        have HLK := hide hlk
        have ha0 := hok.1
        have ha1 := hok.2.1
        clear hp hlk
        go_wp2_with (first
          | (at_lookup; refine wpList_lookup_own_int _ rfl _ _ 79 rfl 22 5 .u8 lawU Try.underlying79 Try.underlying5 (zeroB _) bm _ _ rfl hm.own _ _ rfl (keyOf_int_mk Try.underlying22 (wf_u32 ⟨ha0, ha1⟩)) ?_; intro c hat hwc; rw [D_atKey] at hat; have hce := lit_u8 hat; subst hce)
          | (at_builtin; refine wpList_append_own _ rfl _ _ 51 rfl w.heap.size 69 i0 (.agg #[.int .u32 0, .int .u8 0]) 2 8 Try.underlying51 hi hz0 hz1 hz2 rfl (by decide) _ _ _ rfl (hrow.alloc _) ⟨wr.heap.size, 0, none⟩ 1 1 [.int .u32 p.1, .int .u8 (Mm.look l p.1)] rfl rfl (cell_pair_new _ _ _ _) (by simp [Value.oneCell']) (by unfold maxLen; omega) (by omega) (by have := hb.size; simp; omega) ?_; intro v' w3 hown' hgrow hnil')
          | go_in)
        have hb3 : Below w.heap.size w w3 := (hb.alloc hb.size _).grown hgrow (by have := hb.size; simp; omega) (fun j e => (hrow.lt j e).1)
        have hs3 := (hs.alloc (.cells #[.int .u32 p.1, .int .u8 (Mm.look l p.1)] 69)).kept hgrow (rows_apart hs hrow (by decide))
        exact ⟨⟨k + 1, by go_num, by omega, by rw [HSN.out, ← HLK.out]; exact hown', hs3, hb3⟩, by simp [intOf]; omega⟩
      · have e : k = l.length := by omega
        subst e
        go_wp2
        go_ret
        exact ⟨_, rfl, by rw [List.take_length] at hrow; exact hrow, hb⟩
end Go.Proofs.Ytkfomhllaogplaa
