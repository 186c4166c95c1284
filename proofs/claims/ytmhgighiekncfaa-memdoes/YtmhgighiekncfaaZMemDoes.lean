/-
  MemDoes answers true of any script; without any condition.
  The walk of MemDoes: it answers true of any script.
-/
import Derived.Laws.OwnMore
import Derived.Test.YtmhgighiekncfaaRows
import Derived.WalkKit
import Derived.ProofKit
import Derived.OpenShut
import Derived.Test.YtmhgighiekncfaaZj
import Derived.Test.YtmhgighiekncfaaZk
namespace Go.Proofs.Ytmhgighiekncfaa
open Go.RowKit Go.Maps Mm
set_option linter.unusedSimpArgs false

/-- Between two calls: the memory at P and M and the document's at kb hold the same bytes. -/
structure DoAt (w : World) (kb P M : Nat) (L : Cs) (W : World) : Prop where
  mem : MemAt W P M L
  ref : RefAt W w.heap.size kb L
  low : Below w.heap.size w W
  m : w.heap.size ≤ M
section
variable {w W W' : World} {kb P M : Nat} {L L' : Cs}
theorem DoAt.below (h : DoAt w kb P M L W) (hb : Below W.heap.size W W') : DoAt w kb P M L W' := ⟨h.mem.below hb, h.ref.below hb, h.low.trans (hb.mono h.low.size), h.m⟩
theorem DoAt.both {W'' : World} (h : DoAt w kb P M L W) (m1 : MemAt W' P M L') (g1 : W.grownBy W' (some M)) (r2 : RefAt W'' w.heap.size kb L') (g2 : W'.grownBy W'' (some kb)) : DoAt w kb P M L' W'' := by
  have r1 := h.ref.apart h.mem g1
  obtain ⟨n1, n2⟩ := mem_apart r1 m1
  have lo1 : Below w.heap.size w W' := h.low.trans (grown_below g1 h.m h.low.size)
  exact ⟨m1.apart g2 n1 n2, r2, lo1.trans (grown_below g2 h.ref.base lo1.size), h.m⟩
theorem DoAt.ref1 (h : DoAt w kb P M L W) (g1 : W.grownBy W' (some M)) : RefAt W' w.heap.size kb L := h.ref.apart h.mem g1
theorem OpAt.new3 (w : World) (c : Rec) (b o : Nat) (h : OpAt w b o c) : OpAt (w.alloc (.cells #[.int .i64 c.k, .int .i64 c.n, .int .u32 c.a, .int .u32 c.v, .string c.s] 29)) w.heap.size 0 c := by
  have e := heap_alloc_new w (.cells #[.int .i64 c.k, .int .i64 c.n, .int .u32 c.a, .int .u32 c.v, .string c.s] 29)
  have q : ∀ j, (w.alloc (.cells #[.int .i64 c.k, .int .i64 c.n, .int .u32 c.a, .int .u32 c.v, .string c.s] 29)).cell? ⟨w.heap.size, j, none⟩ = (#[Value.int .i64 c.k, .int .i64 c.n, .int .u32 c.a, .int .u32 c.v, .string c.s] : Array Value)[j]? := fun j => cell_of_row _ _ j _ _ _ e
  exact ⟨q 0, q 1, q 2, q 3, q 4, h.wk, h.wn, h.wa, h.wv, h.ws⟩
theorem OpAt.grown3 {g k : Nat} {c : Rec} (h : OpAt W g 0 c) (hg : W.grownBy W' (some k)) (hn : g ≠ k) : OpAt W' g 0 c := by
  have q : ∀ o v, W.cell? ⟨g, o, none⟩ = some v → W'.cell? ⟨g, o, none⟩ = some v := fun o v hv => by
    rw [← hv]; unfold World.cell?; rw [hg.block g (cell_lt hv) (by simpa using hn)]
  exact ⟨q _ _ h.c0, q _ _ h.c1, q _ _ h.c2, q _ _ h.c3, q _ _ h.c4, h.wk, h.wn, h.wa, h.wv, h.ws⟩
theorem row_form3 {B : Nat} {v : Value} {n : Nat} {xs : List Value} (h : W.ownsRow B 42 2 v n xs) : ∃ ad cp, v = .slice ad n cp := by
  rcases h.2 with ⟨hx, h0⟩ | ⟨g, cap', cur, hx, _⟩
  · rw [h0]; exact ⟨_, _, hx⟩
  · exact ⟨_, _, hx⟩
theorem row_drew {B : Nat} {v : Value} {n : Nat} {xs : List Value} (h : W.ownsRow B 42 2 v n xs) (k : Nat) : (W.drewN k).ownsRow B 42 2 v n xs := h
theorem own_free {B g n cap : Nat} {xs : List Value} (h : W.ownsRow B 42 2 (.slice (some ⟨g, 0, none⟩) n cap) n xs) (i : Nat) : W.frozen? ⟨g, i, none⟩ = false := by
  rcases h.2 with ⟨h', _⟩ | ⟨g', cap', cur, h', _, hg, _⟩
  · simp at h'
  · simp only [Value.slice.injEq, Option.some.injEq, Addr.mk.injEq, and_true, true_and] at h'
    obtain ⟨rfl, rfl⟩ := h'
    exact frozen_of_row W g i cur _ hg
theorem own_set {B g n cap : Nat} {xs : List Value} (h : W.ownsRow B 42 2 (.slice (some ⟨g, 0, none⟩) n cap) n xs) (i : Nat) (v : Value) : ∃ ys, (W.setCell ⟨g, i, none⟩ v).ownsRow B 42 2 (.slice (some ⟨g, 0, none⟩) n cap) n ys := ⟨_, (h.stored i v).1⟩
end

set_option maxRecDepth 100000 in
set_option maxHeartbeats 16000000 in
theorem memDoes_walk (x : Value) (n : Nat) (ops : Nat → Rec) (w : World) (hx : Script w x n ops) (hn : n ≤ maxLen) :
    Calls Try.prog 3 #[x] w fun e w' => e = .returned (.bool true) ∧ Below w.heap.size w w' := by
  unfold maxLen at hn
  obtain ⟨ad, cap, rfl, hO⟩ := hx
  have HO := hide hO
  clear hO
  go_enter Try.func3, Try.ntmps3
  go_wp2_with fail
  refine (new_op w).mono ?_
  rintro e w1 ⟨P0, M0, rfl, hm1, hp1, hmm1, hl1⟩
  go_wp2_with fail
  refine (rnew_any w1).mono ?_
  rintro e w2 ⟨kb, rfl, hr2, hk2, hl2⟩
  have A2 : DoAt w kb P0 M0 [] w2 := ⟨hm1.below hl2, hr2.mono hl1.size, hl1.trans (hl2.mono hl1.size), hmm1⟩
  clear hm1 hr2 hl1 hl2 hk2
  go_wp2_with fail
  go_loopw [3, 5] (fun p i W => ∃ (k P M : Nat) (L : Cs), p = .pointer (some ⟨P, 0, none⟩) ∧ i = .int .i64 k ∧ k ≤ n ∧ k ≤ 60 ∧ DoAt w kb P M L W) (fun _ i _ => n - (intOf i).toNat)
  case atStart => exact ⟨0, P0, M0, [], rfl, rfl, Nat.zero_le _, Nat.zero_le _, A2⟩
  case round =>
    clear A2
    obtain ⟨k, P, M, L, rfl, rfl, hk, hk60, A⟩ := hrel
    by_cases hgo : k < n ∧ k < 60
    · obtain ⟨hlt, hlt60⟩ := hgo
      have hltI : (k : Int) < 60 := by omega
      obtain ⟨b, o, had, hat⟩ := HO.out k hlt
      subst had
      have hbl : b < w.heap.size := cell_lt hat.c0
      have hat := (hat.below A.low)
      obtain ⟨c, hc⟩ : ∃ c, ops k = c := ⟨_, rfl⟩
      rw [hc] at hat
      clear hc
      have O1 := OpAt.new3 wr c b (o + k * 5) hat
      have n1 : Below wr.heap.size wr (wr.alloc (.cells #[.int .i64 c.k, .int .i64 c.n, .int .u32 c.a, .int .u32 c.v, .string c.s] 29)) := (Below.refl _ _).alloc (Nat.le_refl _) _
      have A1 := A.below n1
      have hMP := A.mem.lt
      have hMM := A.mem.lt'
      have hkb := A.ref.lt
      obtain ⟨c0, c1, c2, c3, c4, _, _, _, _, _⟩ := hat
      clear A
      go_upto_region 8 with fail
      generalize (wr.alloc (.cells #[.int .i64 c.k, .int .i64 c.n, .int .u32 c.a, .int .u32 c.v, .string c.s] 29)) = w3 at O1 n1 A1 ⊢
      have hz3 := n1.size
      have hg3 : wr.heap.size < w3.heap.size := cell_lt O1.c0
      clear n1 c0 c1 c2 c3 c4
      generalize hgg : wr.heap.size = g at O1 hz3 hg3 hMP hMM hkb ⊢
      have ba := bounds_u32 O1.wa
      have bv := bounds_u32 O1.wv
      have bn := bounds_i64 O1.wn
      have bs := O1.ws
      unfold maxLen at bs
      have O1' := O1
      obtain ⟨c0, c1, c2, c3, c4, _, _, _, _, _⟩ := O1'
      by_cases k0 : c.k = 0
      · rw [k0] at c0
        by_cases hnn : c.n = 1 ∨ c.n = 2 ∨ c.n = 4
        · go_wp2_with fail
          refine (load_any w3 A1.mem ⟨ba.1, by have := ba.2; omega⟩ hnn).mono ?_
          rintro e w4 ⟨rfl, rfl⟩
          generalize hX : num L c.a c.n.toNat = X
          go_wp2_with fail
          refine (rload_any w4 A1.ref ⟨ba.1, by have := ba.2; omega⟩ hnn).mono ?_
          rintro e w5 ⟨rfl, rfl⟩
          rw [hX]
          clear hX c0 c1 c2 c3 c4
          go_wp2_with fail
          refine (cells_any w5 A1.mem).mono ?_
          rintro e v1 ⟨v, rfl, ov, lv⟩
          obtain ⟨ad, cp, ev⟩ := row_form3 ov
          subst ev
          obtain ⟨kv, kc, ko⟩ := (A1.ref.below lv).got
          have qk := heap_cell kc
          have hlen := A1.mem.rise.length
          go_wp2_with fail
          refine (same_yes v1 ov ko hlen).mono ?_
          rintro e v2 ⟨rfl, nd, rfl⟩
          have lv2 : Below w5.heap.size w5 (v1.drewN nd) := lv.trans (drewN_below v1 nd _)
          have ov2 : ∃ xs, (v1.drewN nd).ownsRow w5.heap.size 42 2 (.slice ad (L).length cp) (L).length xs := ⟨_, row_drew ov nd⟩
          clear ov lv kc ko qk
          generalize v1.drewN nd = v3 at lv2 ov2 ⊢
          go_wp2_with fail
          go_loopw [14] (fun u W => ∃ j : Nat, j ≤ (L).length ∧ u = .int .i64 j ∧ (∃ xs, W.ownsRow w5.heap.size 42 2 (.slice ad (L).length cp) (L).length xs) ∧ Below w5.heap.size w5 W) (fun u _ => (L).length - (intOf u).toNat)
          case atStart => exact ⟨0, Nat.zero_le _, rfl, ov2, lv2⟩
          case round =>
            clear lv2 ov2
            obtain ⟨j, hj, rfl, ⟨xs, ox⟩, lx⟩ := hrel
            by_cases hjl : j < (L).length
            · obtain ⟨g, hg, eg⟩ : ∃ g, w5.heap.size ≤ g ∧ ad = some ⟨g, 0, none⟩ := by
                rcases ox.2 with ⟨_, h0⟩ | ⟨g, cap', cur, hv, hb, _⟩
                · omega
                · simp only [Value.slice.injEq] at hv
                  exact ⟨g, hb, hv.1⟩
              subst eg
              obtain ⟨u0, hu0⟩ : ∃ u0, wr.cell? ⟨g, j * 2 + 1, none⟩ = some u0 := by
                have := ox.cellAt (j * 2 + 1) (by omega)
                rw [List.getElem?_eq_getElem (by rw [ox.1]; omega)] at this
                exact ⟨_, this⟩
              have fz := own_free ox (j * 2 + 1)
              have os := own_set ox (j * 2 + 1) (.int .u8 0)
              have lo : Below w5.heap.size w5 (wr.setCell ⟨g, j * 2 + 1, none⟩ (.int .u8 0)) := lx.trans ⟨rfl, rfl, rfl, by simp, fun b hb => heap_setCell_other wr _ b _ (by simp; omega)⟩
              clear ox lx
              go_wp2_with fail
              exact ⟨⟨j + 1, by omega, by go_num, os, lo⟩, by simp [intOf]; omega⟩
            · have AZ := A1.below lx
              go_wp2_with fail
              exact ⟨⟨k + 1, P, M, L, rfl, by go_num, by omega, by omega, AZ⟩, by simp [intOf]; omega⟩
        · have hnn' : c.n ≠ 1 ∧ c.n ≠ 2 ∧ c.n ≠ 4 := by omega
          go_wp2_with fail
          refine (load_no _ hnn' w3).mono ?_
          rintro e w4 ⟨rfl, rfl⟩
          go_wp2_with fail
          refine (rload_no _ hnn' w4).mono ?_
          rintro e w5 ⟨rfl, rfl⟩
          clear c0 c1 c2 c3 c4
          go_wp2_with fail
          refine (cells_any w5 A1.mem).mono ?_
          rintro e v1 ⟨v, rfl, ov, lv⟩
          obtain ⟨ad, cp, ev⟩ := row_form3 ov
          subst ev
          obtain ⟨kv, kc, ko⟩ := (A1.ref.below lv).got
          have qk := heap_cell kc
          have hlen := A1.mem.rise.length
          go_wp2_with fail
          refine (same_yes v1 ov ko hlen).mono ?_
          rintro e v2 ⟨rfl, nd, rfl⟩
          have lv2 : Below w5.heap.size w5 (v1.drewN nd) := lv.trans (drewN_below v1 nd _)
          have ov2 : ∃ xs, (v1.drewN nd).ownsRow w5.heap.size 42 2 (.slice ad (L).length cp) (L).length xs := ⟨_, row_drew ov nd⟩
          clear ov lv kc ko qk
          generalize v1.drewN nd = v3 at lv2 ov2 ⊢
          go_wp2_with fail
          go_loopw [14] (fun u W => ∃ j : Nat, j ≤ (L).length ∧ u = .int .i64 j ∧ (∃ xs, W.ownsRow w5.heap.size 42 2 (.slice ad (L).length cp) (L).length xs) ∧ Below w5.heap.size w5 W) (fun u _ => (L).length - (intOf u).toNat)
          case atStart => exact ⟨0, Nat.zero_le _, rfl, ov2, lv2⟩
          case round =>
            clear lv2 ov2
            obtain ⟨j, hj, rfl, ⟨xs, ox⟩, lx⟩ := hrel
            by_cases hjl : j < (L).length
            · obtain ⟨g, hg, eg⟩ : ∃ g, w5.heap.size ≤ g ∧ ad = some ⟨g, 0, none⟩ := by
                rcases ox.2 with ⟨_, h0⟩ | ⟨g, cap', cur, hv, hb, _⟩
                · omega
                · simp only [Value.slice.injEq] at hv
                  exact ⟨g, hb, hv.1⟩
              subst eg
              obtain ⟨u0, hu0⟩ : ∃ u0, wr.cell? ⟨g, j * 2 + 1, none⟩ = some u0 := by
                have := ox.cellAt (j * 2 + 1) (by omega)
                rw [List.getElem?_eq_getElem (by rw [ox.1]; omega)] at this
                exact ⟨_, this⟩
              have fz := own_free ox (j * 2 + 1)
              have os := own_set ox (j * 2 + 1) (.int .u8 0)
              have lo : Below w5.heap.size w5 (wr.setCell ⟨g, j * 2 + 1, none⟩ (.int .u8 0)) := lx.trans ⟨rfl, rfl, rfl, by simp, fun b hb => heap_setCell_other wr _ b _ (by simp; omega)⟩
              clear ox lx
              go_wp2_with fail
              exact ⟨⟨j + 1, by omega, by go_num, os, lo⟩, by simp [intOf]; omega⟩
            · have AZ := A1.below lx
              go_wp2_with fail
              exact ⟨⟨k + 1, P, M, L, rfl, by go_num, by omega, by omega, AZ⟩, by simp [intOf]; omega⟩
      by_cases k1 : c.k = 1
      · have t0 : (c.k == 0) = false := by simpa using k0
        rw [k1] at c0
        clear t0
        by_cases hnn : c.n = 1 ∨ c.n = 2 ∨ c.n = 4
        · go_wp2_with fail
          refine (store_any w3 A1.mem ⟨ba.1, by have := ba.2; omega⟩ hnn ⟨bv.1, by have := bv.2; omega⟩).mono ?_
          rintro e w4 ⟨rfl, m4, g4⟩
          have O4 := O1.grown3 g4 (by omega)
          have r4 := A1.ref1 g4
          have hz4 := g4.size
          have hlo := A1.low.size
          clear c0 c1 c2 c3 c4
          obtain ⟨c0, c1, c2, c3, c4, _, _, _, _, _⟩ := O4
          go_wp2_with fail
          refine (rstore_any w4 r4 ⟨ba.1, by have := ba.2; omega⟩ hnn ⟨bv.1, by have := bv.2; omega⟩ (by omega)).mono ?_
          rintro e w5 ⟨rfl, r5, g5⟩
          have A5 := A1.both m4 g4 r5 g5
          clear c0 c1 c2 c3 c4 A1 m4 g4 r5 g5 r4
          generalize sto L c.a c.v c.n.toNat = L2 at A5
          go_wp2_with fail
          refine (cells_any w5 A5.mem).mono ?_
          rintro e v1 ⟨v, rfl, ov, lv⟩
          obtain ⟨ad, cp, ev⟩ := row_form3 ov
          subst ev
          obtain ⟨kv, kc, ko⟩ := (A5.ref.below lv).got
          have qk := heap_cell kc
          have hlen := A5.mem.rise.length
          go_wp2_with fail
          refine (same_yes v1 ov ko hlen).mono ?_
          rintro e v2 ⟨rfl, nd, rfl⟩
          have lv2 : Below w5.heap.size w5 (v1.drewN nd) := lv.trans (drewN_below v1 nd _)
          have ov2 : ∃ xs, (v1.drewN nd).ownsRow w5.heap.size 42 2 (.slice ad (L2).length cp) (L2).length xs := ⟨_, row_drew ov nd⟩
          clear ov lv kc ko qk
          generalize v1.drewN nd = v3 at lv2 ov2 ⊢
          go_wp2_with fail
          go_loopw [14] (fun u W => ∃ j : Nat, j ≤ (L2).length ∧ u = .int .i64 j ∧ (∃ xs, W.ownsRow w5.heap.size 42 2 (.slice ad (L2).length cp) (L2).length xs) ∧ Below w5.heap.size w5 W) (fun u _ => (L2).length - (intOf u).toNat)
          case atStart => exact ⟨0, Nat.zero_le _, rfl, ov2, lv2⟩
          case round =>
            clear lv2 ov2
            obtain ⟨j, hj, rfl, ⟨xs, ox⟩, lx⟩ := hrel
            by_cases hjl : j < (L2).length
            · obtain ⟨g, hg, eg⟩ : ∃ g, w5.heap.size ≤ g ∧ ad = some ⟨g, 0, none⟩ := by
                rcases ox.2 with ⟨_, h0⟩ | ⟨g, cap', cur, hv, hb, _⟩
                · omega
                · simp only [Value.slice.injEq] at hv
                  exact ⟨g, hb, hv.1⟩
              subst eg
              obtain ⟨u0, hu0⟩ : ∃ u0, wr.cell? ⟨g, j * 2 + 1, none⟩ = some u0 := by
                have := ox.cellAt (j * 2 + 1) (by omega)
                rw [List.getElem?_eq_getElem (by rw [ox.1]; omega)] at this
                exact ⟨_, this⟩
              have fz := own_free ox (j * 2 + 1)
              have os := own_set ox (j * 2 + 1) (.int .u8 0)
              have lo : Below w5.heap.size w5 (wr.setCell ⟨g, j * 2 + 1, none⟩ (.int .u8 0)) := lx.trans ⟨rfl, rfl, rfl, by simp, fun b hb => heap_setCell_other wr _ b _ (by simp; omega)⟩
              clear ox lx
              go_wp2_with fail
              exact ⟨⟨j + 1, by omega, by go_num, os, lo⟩, by simp [intOf]; omega⟩
            · have AZ := A5.below lx
              go_wp2_with fail
              exact ⟨⟨k + 1, P, M, L2, rfl, by go_num, by omega, by omega, AZ⟩, by simp [intOf]; omega⟩
        · have hnn' : c.n ≠ 1 ∧ c.n ≠ 2 ∧ c.n ≠ 4 := by omega
          go_wp2_with fail
          refine (store_no _ hnn' w3).mono ?_
          rintro e w4 ⟨rfl, rfl⟩
          go_wp2_with fail
          refine (rstore_no _ hnn' w4).mono ?_
          rintro e w5 ⟨rfl, rfl⟩
          clear c0 c1 c2 c3 c4
          go_wp2_with fail
          refine (cells_any w5 A1.mem).mono ?_
          rintro e v1 ⟨v, rfl, ov, lv⟩
          obtain ⟨ad, cp, ev⟩ := row_form3 ov
          subst ev
          obtain ⟨kv, kc, ko⟩ := (A1.ref.below lv).got
          have qk := heap_cell kc
          have hlen := A1.mem.rise.length
          go_wp2_with fail
          refine (same_yes v1 ov ko hlen).mono ?_
          rintro e v2 ⟨rfl, nd, rfl⟩
          have lv2 : Below w5.heap.size w5 (v1.drewN nd) := lv.trans (drewN_below v1 nd _)
          have ov2 : ∃ xs, (v1.drewN nd).ownsRow w5.heap.size 42 2 (.slice ad (L).length cp) (L).length xs := ⟨_, row_drew ov nd⟩
          clear ov lv kc ko qk
          generalize v1.drewN nd = v3 at lv2 ov2 ⊢
          go_wp2_with fail
          go_loopw [14] (fun u W => ∃ j : Nat, j ≤ (L).length ∧ u = .int .i64 j ∧ (∃ xs, W.ownsRow w5.heap.size 42 2 (.slice ad (L).length cp) (L).length xs) ∧ Below w5.heap.size w5 W) (fun u _ => (L).length - (intOf u).toNat)
          case atStart => exact ⟨0, Nat.zero_le _, rfl, ov2, lv2⟩
          case round =>
            clear lv2 ov2
            obtain ⟨j, hj, rfl, ⟨xs, ox⟩, lx⟩ := hrel
            by_cases hjl : j < (L).length
            · obtain ⟨g, hg, eg⟩ : ∃ g, w5.heap.size ≤ g ∧ ad = some ⟨g, 0, none⟩ := by
                rcases ox.2 with ⟨_, h0⟩ | ⟨g, cap', cur, hv, hb, _⟩
                · omega
                · simp only [Value.slice.injEq] at hv
                  exact ⟨g, hb, hv.1⟩
              subst eg
              obtain ⟨u0, hu0⟩ : ∃ u0, wr.cell? ⟨g, j * 2 + 1, none⟩ = some u0 := by
                have := ox.cellAt (j * 2 + 1) (by omega)
                rw [List.getElem?_eq_getElem (by rw [ox.1]; omega)] at this
                exact ⟨_, this⟩
              have fz := own_free ox (j * 2 + 1)
              have os := own_set ox (j * 2 + 1) (.int .u8 0)
              have lo : Below w5.heap.size w5 (wr.setCell ⟨g, j * 2 + 1, none⟩ (.int .u8 0)) := lx.trans ⟨rfl, rfl, rfl, by simp, fun b hb => heap_setCell_other wr _ b _ (by simp; omega)⟩
              clear ox lx
              go_wp2_with fail
              exact ⟨⟨j + 1, by omega, by go_num, os, lo⟩, by simp [intOf]; omega⟩
            · have AZ := A1.below lx
              go_wp2_with fail
              exact ⟨⟨k + 1, P, M, L, rfl, by go_num, by omega, by omega, AZ⟩, by simp [intOf]; omega⟩
      by_cases k2 : c.k = 2
      · have t0 : (c.k == 0) = false := by simpa using k0
        have t1 : (c.k == 1) = false := by simpa using k1
        rw [k2] at c0
        clear t0 t1 c1 c2 c3 c4
        obtain ⟨z, hz, hz0, hz1, hz2⟩ : ∃ z : Int, min (c.s.size : Int) 30 = z ∧ 0 ≤ z ∧ z ≤ c.s.size ∧ z ≤ 30 := ⟨_, rfl, by omega, by omega, by omega⟩
        go_wp2_with fail
        have B3 : DoAt w kb P M L w3.drew := A1.below (drewN_below w3 1 _)
        have Q3 : OpAt w3.drew g 0 c := O1.below (drewN_below w3 1 _)
        refine wp_region_noPanic ?_
        refine wp_region_held_drew (S := fun W => OpAt W g 0 c) (by kernel_rfl) Q3 (fun s0 => ?_)
        refine wpAnyH_takeAt (i := 0) (v := ?_) rfl (by kernel_rfl) (by kernel_rfl) (by kernel_rfl) (fun _ _ _ h => h) (Or.inl ⟨by rfl, ?_⟩) s0 ?_
        rotate_left 1
        · intro w' hS; have y2 := OpAt.c2 hS; have y4 := OpAt.c4 hS; have y1 := OpAt.c1 hS; simp only [Nat.zero_add] at y1 y2 y4; clear hS
          go_simp <;> with_reducible rfl
        try simp only [Act.put, List.setIfInBounds_toArray, List.set_cons_zero, List.set_cons_succ]
        refine wpAnyH_takeAt (i := 1) (v := ?_) rfl (by kernel_rfl) (by kernel_rfl) (by kernel_rfl) (fun _ _ _ h => h) (Or.inl ⟨by rfl, ?_⟩) s0 ?_
        rotate_left 1
        · intro w' hS; have y2 := OpAt.c2 hS; have y4 := OpAt.c4 hS; have y1 := OpAt.c1 hS; simp only [Nat.zero_add] at y1 y2 y4; clear hS
          go_simp <;> with_reducible rfl
        try simp only [Act.put, List.setIfInBounds_toArray, List.set_cons_zero, List.set_cons_succ]
        refine wpAnyH_takeAt (i := 2) (v := ?_) rfl (by kernel_rfl) (by kernel_rfl) (by kernel_rfl) (fun _ _ _ h => h) (Or.inl ⟨by rfl, ?_⟩) s0 ?_
        rotate_left 1
        · intro w' hS; have y2 := OpAt.c2 hS; have y4 := OpAt.c4 hS; have y1 := OpAt.c1 hS; simp only [Nat.zero_add] at y1 y2 y4; clear hS
          go_simp <;> with_reducible rfl
        try simp only [Act.put, List.setIfInBounds_toArray, List.set_cons_zero, List.set_cons_succ]
        refine wpAnyH_takeAt (i := 3) (v := ?_) rfl (by kernel_rfl) (by kernel_rfl) (by kernel_rfl) (fun _ _ _ h => h) (Or.inl ⟨by rfl, ?_⟩) s0 ?_
        rotate_left 1
        · intro w' hS; have y2 := OpAt.c2 hS; have y4 := OpAt.c4 hS; have y1 := OpAt.c1 hS; simp only [Nat.zero_add] at y1 y2 y4; clear hS
          go_simp <;> with_reducible rfl
        try simp only [Act.put, List.setIfInBounds_toArray, List.set_cons_zero, List.set_cons_succ]
        refine wpAnyH_takeAt (i := 4) (v := ?_) rfl (by kernel_rfl) (by kernel_rfl) (by kernel_rfl) (fun _ _ _ h => h) (Or.inl ⟨by rfl, ?_⟩) s0 ?_
        rotate_left 1
        · intro w' hS; have y2 := OpAt.c2 hS; have y4 := OpAt.c4 hS; have y1 := OpAt.c1 hS; simp only [Nat.zero_add] at y1 y2 y4; clear hS
          go_simp <;> with_reducible rfl
        try simp only [Act.put, List.setIfInBounds_toArray, List.set_cons_zero, List.set_cons_succ]
        refine wpAnyH_takeAt (i := 5) (v := ?_) rfl (by kernel_rfl) (by kernel_rfl) (by kernel_rfl) (fun _ _ _ h => h) (Or.inl ⟨by rfl, ?_⟩) s0 ?_
        rotate_left 1
        · intro w' hS; have y2 := OpAt.c2 hS; have y4 := OpAt.c4 hS; have y1 := OpAt.c1 hS; simp only [Nat.zero_add] at y1 y2 y4; clear hS
          go_simp <;> with_reducible rfl
        try simp only [Act.put, List.setIfInBounds_toArray, List.set_cons_zero, List.set_cons_succ]
        refine wpAnyH_takeAt (i := 6) (v := ?_) rfl (by kernel_rfl) (by kernel_rfl) (by kernel_rfl) (fun _ _ _ h => h) (Or.inl ⟨by rfl, ?_⟩) s0 ?_
        rotate_left 1
        · intro w' hS; have y2 := OpAt.c2 hS; have y4 := OpAt.c4 hS; have y1 := OpAt.c1 hS; simp only [Nat.zero_add] at y1 y2 y4; clear hS
          go_simp <;> with_reducible rfl
        try simp only [Act.put, List.setIfInBounds_toArray, List.set_cons_zero, List.set_cons_succ]
        refine wpAnyH_takeAt (i := 7) (v := ?_) rfl (by kernel_rfl) (by kernel_rfl) (by kernel_rfl) (fun _ _ _ h => h) (Or.inl ⟨by rfl, ?_⟩) s0 ?_
        rotate_left 1
        · intro w' hS; have y2 := OpAt.c2 hS; have y4 := OpAt.c4 hS; have y1 := OpAt.c1 hS; simp only [Nat.zero_add] at y1 y2 y4; clear hS
          go_simp <;> with_reducible rfl
        try simp only [Act.put, List.setIfInBounds_toArray, List.set_cons_zero, List.set_cons_succ]
        refine wpAnyH_takeAt (i := 8) (v := ?_) rfl (by kernel_rfl) (by kernel_rfl) (by kernel_rfl) (fun _ _ _ h => h) (Or.inl ⟨by rfl, ?_⟩) s0 ?_
        rotate_left 1
        · intro w' hS; have y2 := OpAt.c2 hS; have y4 := OpAt.c4 hS; have y1 := OpAt.c1 hS; simp only [Nat.zero_add] at y1 y2 y4; clear hS
          go_simp <;> with_reducible rfl
        try simp only [Act.put, List.setIfInBounds_toArray, List.set_cons_zero, List.set_cons_succ]
        refine wpAnyH_takeAt (i := 9) (v := ?_) rfl (by kernel_rfl) (by kernel_rfl) (by kernel_rfl) (fun _ _ _ h => h) (Or.inl ⟨by rfl, ?_⟩) s0 ?_
        rotate_left 1
        · intro w' hS; have y2 := OpAt.c2 hS; have y4 := OpAt.c4 hS; have y1 := OpAt.c1 hS; simp only [Nat.zero_add] at y1 y2 y4; clear hS
          go_simp <;> with_reducible rfl
        try simp only [Act.put, List.setIfInBounds_toArray, List.set_cons_zero, List.set_cons_succ]
        refine wpAnyH_ready (rs := [10]) (by kernel_rfl) (by simp) (allReady_at rfl (fun K hK => ?_))
        go_simp
        refine (mput_any _ B3.mem ⟨ba.1, by have := ba.2; omega⟩ (by rw [ByteArray.size_extract]; omega)).mono ?_
        rintro e w4 ⟨rfl, m4, g4⟩
        dsimp only
        have O4 := Q3.grown3 g4 (by omega)
        have r4 := B3.ref1 g4
        have hz4 := g4.size
        have hlo := B3.low.size
        refine hK.out _ _ O4 (fun _ => ?_)
        clear hK K s0
        try simp only [Act.put, List.setIfInBounds_toArray, List.set_cons_zero, List.set_cons_succ]
        refine wpAnyH_done (by kernel_rfl) ?_ _
        refine NoPanic.normal ?_
        go_wp2_with fail
        have Q4 : OpAt w4.drew g 0 c := O4.below (drewN_below w4 1 _)
        have r4' : RefAt w4.drew w.heap.size kb L := r4.below (drewN_below w4 1 _)
        have m4' : MemAt w4.drew P M (puts L c.a (c.s.extract 0 z.toNat).data.toList (c.s.extract 0 z.toNat).size) := m4.below (drewN_below w4 1 _)
        have g4' : w3.drew.grownBy w4.drew (some M) := ⟨g4.os, g4.tape, g4.output, g4.size, g4.block⟩
        refine wp_region_noPanic ?_
        refine wp_region_held_drew (S := fun W => OpAt W g 0 c) (by kernel_rfl) Q4 (fun s0 => ?_)
        refine wpAnyH_takeAt (i := 0) (v := ?_) rfl (by kernel_rfl) (by kernel_rfl) (by kernel_rfl) (fun _ _ _ h => h) (Or.inl ⟨by rfl, ?_⟩) s0 ?_
        rotate_left 1
        · intro w' hS; have y2 := OpAt.c2 hS; have y4 := OpAt.c4 hS; have y1 := OpAt.c1 hS; simp only [Nat.zero_add] at y1 y2 y4; clear hS
          go_simp <;> with_reducible rfl
        try simp only [Act.put, List.setIfInBounds_toArray, List.set_cons_zero, List.set_cons_succ]
        refine wpAnyH_takeAt (i := 1) (v := ?_) rfl (by kernel_rfl) (by kernel_rfl) (by kernel_rfl) (fun _ _ _ h => h) (Or.inl ⟨by rfl, ?_⟩) s0 ?_
        rotate_left 1
        · intro w' hS; have y2 := OpAt.c2 hS; have y4 := OpAt.c4 hS; have y1 := OpAt.c1 hS; simp only [Nat.zero_add] at y1 y2 y4; clear hS
          go_simp <;> with_reducible rfl
        try simp only [Act.put, List.setIfInBounds_toArray, List.set_cons_zero, List.set_cons_succ]
        refine wpAnyH_takeAt (i := 2) (v := ?_) rfl (by kernel_rfl) (by kernel_rfl) (by kernel_rfl) (fun _ _ _ h => h) (Or.inl ⟨by rfl, ?_⟩) s0 ?_
        rotate_left 1
        · intro w' hS; have y2 := OpAt.c2 hS; have y4 := OpAt.c4 hS; have y1 := OpAt.c1 hS; simp only [Nat.zero_add] at y1 y2 y4; clear hS
          go_simp <;> with_reducible rfl
        try simp only [Act.put, List.setIfInBounds_toArray, List.set_cons_zero, List.set_cons_succ]
        refine wpAnyH_takeAt (i := 3) (v := ?_) rfl (by kernel_rfl) (by kernel_rfl) (by kernel_rfl) (fun _ _ _ h => h) (Or.inl ⟨by rfl, ?_⟩) s0 ?_
        rotate_left 1
        · intro w' hS; have y2 := OpAt.c2 hS; have y4 := OpAt.c4 hS; have y1 := OpAt.c1 hS; simp only [Nat.zero_add] at y1 y2 y4; clear hS
          go_simp <;> with_reducible rfl
        try simp only [Act.put, List.setIfInBounds_toArray, List.set_cons_zero, List.set_cons_succ]
        refine wpAnyH_takeAt (i := 4) (v := ?_) rfl (by kernel_rfl) (by kernel_rfl) (by kernel_rfl) (fun _ _ _ h => h) (Or.inl ⟨by rfl, ?_⟩) s0 ?_
        rotate_left 1
        · intro w' hS; have y2 := OpAt.c2 hS; have y4 := OpAt.c4 hS; have y1 := OpAt.c1 hS; simp only [Nat.zero_add] at y1 y2 y4; clear hS
          go_simp <;> with_reducible rfl
        try simp only [Act.put, List.setIfInBounds_toArray, List.set_cons_zero, List.set_cons_succ]
        refine wpAnyH_takeAt (i := 5) (v := ?_) rfl (by kernel_rfl) (by kernel_rfl) (by kernel_rfl) (fun _ _ _ h => h) (Or.inl ⟨by rfl, ?_⟩) s0 ?_
        rotate_left 1
        · intro w' hS; have y2 := OpAt.c2 hS; have y4 := OpAt.c4 hS; have y1 := OpAt.c1 hS; simp only [Nat.zero_add] at y1 y2 y4; clear hS
          go_simp <;> with_reducible rfl
        try simp only [Act.put, List.setIfInBounds_toArray, List.set_cons_zero, List.set_cons_succ]
        refine wpAnyH_takeAt (i := 6) (v := ?_) rfl (by kernel_rfl) (by kernel_rfl) (by kernel_rfl) (fun _ _ _ h => h) (Or.inl ⟨by rfl, ?_⟩) s0 ?_
        rotate_left 1
        · intro w' hS; have y2 := OpAt.c2 hS; have y4 := OpAt.c4 hS; have y1 := OpAt.c1 hS; simp only [Nat.zero_add] at y1 y2 y4; clear hS
          go_simp <;> with_reducible rfl
        try simp only [Act.put, List.setIfInBounds_toArray, List.set_cons_zero, List.set_cons_succ]
        refine wpAnyH_takeAt (i := 7) (v := ?_) rfl (by kernel_rfl) (by kernel_rfl) (by kernel_rfl) (fun _ _ _ h => h) (Or.inl ⟨by rfl, ?_⟩) s0 ?_
        rotate_left 1
        · intro w' hS; have y2 := OpAt.c2 hS; have y4 := OpAt.c4 hS; have y1 := OpAt.c1 hS; simp only [Nat.zero_add] at y1 y2 y4; clear hS
          go_simp <;> with_reducible rfl
        try simp only [Act.put, List.setIfInBounds_toArray, List.set_cons_zero, List.set_cons_succ]
        refine wpAnyH_takeAt (i := 8) (v := ?_) rfl (by kernel_rfl) (by kernel_rfl) (by kernel_rfl) (fun _ _ _ h => h) (Or.inl ⟨by rfl, ?_⟩) s0 ?_
        rotate_left 1
        · intro w' hS; have y2 := OpAt.c2 hS; have y4 := OpAt.c4 hS; have y1 := OpAt.c1 hS; simp only [Nat.zero_add] at y1 y2 y4; clear hS
          go_simp <;> with_reducible rfl
        try simp only [Act.put, List.setIfInBounds_toArray, List.set_cons_zero, List.set_cons_succ]
        refine wpAnyH_takeAt (i := 9) (v := ?_) rfl (by kernel_rfl) (by kernel_rfl) (by kernel_rfl) (fun _ _ _ h => h) (Or.inl ⟨by rfl, ?_⟩) s0 ?_
        rotate_left 1
        · intro w' hS; have y2 := OpAt.c2 hS; have y4 := OpAt.c4 hS; have y1 := OpAt.c1 hS; simp only [Nat.zero_add] at y1 y2 y4; clear hS
          go_simp <;> with_reducible rfl
        try simp only [Act.put, List.setIfInBounds_toArray, List.set_cons_zero, List.set_cons_succ]
        refine wpAnyH_ready (rs := [10]) (by kernel_rfl) (by simp) (allReady_at rfl (fun K hK => ?_))
        go_simp
        refine (rmput_any _ r4' ⟨ba.1, by have := ba.2; omega⟩ (by rw [ByteArray.size_extract]; omega) (Nat.le_trans hlo hz4)).mono ?_
        rintro e w5 ⟨rfl, r5, g5⟩
        dsimp only
        have O5 := Q4.grown3 g5 (by omega)
        have A5 := B3.both m4' g4' r5 g5
        refine hK.out _ _ O5 (fun _ => ?_)
        clear hK K s0
        try simp only [Act.put, List.setIfInBounds_toArray, List.set_cons_zero, List.set_cons_succ]
        refine wpAnyH_done (by kernel_rfl) ?_ _
        refine NoPanic.normal ?_
        clear A1 B3 Q3 O4 r4 m4 g4 Q4 r4' m4' g4' r5 g5 O5 O1
        generalize puts L c.a (c.s.extract 0 z.toNat).data.toList (c.s.extract 0 z.toNat).size = L2 at A5
        go_wp2_with fail
        refine (cells_any w5 A5.mem).mono ?_
        rintro e v1 ⟨v, rfl, ov, lv⟩
        obtain ⟨ad, cp, ev⟩ := row_form3 ov
        subst ev
        obtain ⟨kv, kc, ko⟩ := (A5.ref.below lv).got
        have qk := heap_cell kc
        have hlen := A5.mem.rise.length
        go_wp2_with fail
        refine (same_yes v1 ov ko hlen).mono ?_
        rintro e v2 ⟨rfl, nd, rfl⟩
        have lv2 : Below w5.heap.size w5 (v1.drewN nd) := lv.trans (drewN_below v1 nd _)
        have ov2 : ∃ xs, (v1.drewN nd).ownsRow w5.heap.size 42 2 (.slice ad (L2).length cp) (L2).length xs := ⟨_, row_drew ov nd⟩
        clear ov lv kc ko qk
        generalize v1.drewN nd = v3 at lv2 ov2 ⊢
        go_wp2_with fail
        go_loopw [14] (fun u W => ∃ j : Nat, j ≤ (L2).length ∧ u = .int .i64 j ∧ (∃ xs, W.ownsRow w5.heap.size 42 2 (.slice ad (L2).length cp) (L2).length xs) ∧ Below w5.heap.size w5 W) (fun u _ => (L2).length - (intOf u).toNat)
        case atStart => exact ⟨0, Nat.zero_le _, rfl, ov2, lv2⟩
        case round =>
          clear lv2 ov2
          obtain ⟨j, hj, rfl, ⟨xs, ox⟩, lx⟩ := hrel
          by_cases hjl : j < (L2).length
          · obtain ⟨g, hg, eg⟩ : ∃ g, w5.heap.size ≤ g ∧ ad = some ⟨g, 0, none⟩ := by
              rcases ox.2 with ⟨_, h0⟩ | ⟨g, cap', cur, hv, hb, _⟩
              · omega
              · simp only [Value.slice.injEq] at hv
                exact ⟨g, hb, hv.1⟩
            subst eg
            obtain ⟨u0, hu0⟩ : ∃ u0, wr.cell? ⟨g, j * 2 + 1, none⟩ = some u0 := by
              have := ox.cellAt (j * 2 + 1) (by omega)
              rw [List.getElem?_eq_getElem (by rw [ox.1]; omega)] at this
              exact ⟨_, this⟩
            have fz := own_free ox (j * 2 + 1)
            have os := own_set ox (j * 2 + 1) (.int .u8 0)
            have lo : Below w5.heap.size w5 (wr.setCell ⟨g, j * 2 + 1, none⟩ (.int .u8 0)) := lx.trans ⟨rfl, rfl, rfl, by simp, fun b hb => heap_setCell_other wr _ b _ (by simp; omega)⟩
            clear ox lx
            go_wp2_with fail
            exact ⟨⟨j + 1, by omega, by go_num, os, lo⟩, by simp [intOf]; omega⟩
          · have AZ := A5.below lx
            go_wp2_with fail
            exact ⟨⟨k + 1, P, M, L2, rfl, by go_num, by omega, by omega, AZ⟩, by simp [intOf]; omega⟩
      by_cases k3 : c.k = 3
      · have t0 : (c.k == 0) = false := by simpa using k0
        have t1 : (c.k == 1) = false := by simpa using k1
        have t2 : (c.k == 2) = false := by simpa using k2
        rw [k3] at c0
        clear t0 t1 t2 c1 c2 c3 c4
        obtain ⟨z, hz, hz2⟩ : ∃ z : Int, min c.n 30 = z ∧ z ≤ 30 := ⟨_, rfl, by omega⟩
        go_wp2_with fail
        have B3 : DoAt w kb P M L w3.drew := A1.below (drewN_below w3 1 _)
        have Q3 : OpAt w3.drew g 0 c := O1.below (drewN_below w3 1 _)
        refine wp_region_noPanic ?_
        refine wp_region_held_drew (S := fun W => OpAt W g 0 c) (by kernel_rfl) Q3 (fun s0 => ?_)
        refine wpAnyH_takeAt (i := 0) (v := ?_) rfl (by kernel_rfl) (by kernel_rfl) (by kernel_rfl) (fun _ _ _ h => h) (Or.inl ⟨by rfl, ?_⟩) s0 ?_
        rotate_left 1
        · intro w' hS; have y2 := OpAt.c2 hS; have y4 := OpAt.c4 hS; have y1 := OpAt.c1 hS; simp only [Nat.zero_add] at y1 y2 y4; clear hS
          go_simp <;> with_reducible rfl
        try simp only [Act.put, List.setIfInBounds_toArray, List.set_cons_zero, List.set_cons_succ]
        refine wpAnyH_takeAt (i := 1) (v := ?_) rfl (by kernel_rfl) (by kernel_rfl) (by kernel_rfl) (fun _ _ _ h => h) (Or.inl ⟨by rfl, ?_⟩) s0 ?_
        rotate_left 1
        · intro w' hS; have y2 := OpAt.c2 hS; have y4 := OpAt.c4 hS; have y1 := OpAt.c1 hS; simp only [Nat.zero_add] at y1 y2 y4; clear hS
          go_simp <;> with_reducible rfl
        try simp only [Act.put, List.setIfInBounds_toArray, List.set_cons_zero, List.set_cons_succ]
        refine wpAnyH_takeAt (i := 2) (v := ?_) rfl (by kernel_rfl) (by kernel_rfl) (by kernel_rfl) (fun _ _ _ h => h) (Or.inl ⟨by rfl, ?_⟩) s0 ?_
        rotate_left 1
        · intro w' hS; have y2 := OpAt.c2 hS; have y4 := OpAt.c4 hS; have y1 := OpAt.c1 hS; simp only [Nat.zero_add] at y1 y2 y4; clear hS
          go_simp <;> with_reducible rfl
        try simp only [Act.put, List.setIfInBounds_toArray, List.set_cons_zero, List.set_cons_succ]
        refine wpAnyH_takeAt (i := 3) (v := ?_) rfl (by kernel_rfl) (by kernel_rfl) (by kernel_rfl) (fun _ _ _ h => h) (Or.inl ⟨by rfl, ?_⟩) s0 ?_
        rotate_left 1
        · intro w' hS; have y2 := OpAt.c2 hS; have y4 := OpAt.c4 hS; have y1 := OpAt.c1 hS; simp only [Nat.zero_add] at y1 y2 y4; clear hS
          go_simp <;> with_reducible rfl
        try simp only [Act.put, List.setIfInBounds_toArray, List.set_cons_zero, List.set_cons_succ]
        refine wpAnyH_takeAt (i := 4) (v := ?_) rfl (by kernel_rfl) (by kernel_rfl) (by kernel_rfl) (fun _ _ _ h => h) (Or.inl ⟨by rfl, ?_⟩) s0 ?_
        rotate_left 1
        · intro w' hS; have y2 := OpAt.c2 hS; have y4 := OpAt.c4 hS; have y1 := OpAt.c1 hS; simp only [Nat.zero_add] at y1 y2 y4; clear hS
          go_simp <;> with_reducible rfl
        try simp only [Act.put, List.setIfInBounds_toArray, List.set_cons_zero, List.set_cons_succ]
        refine wpAnyH_takeAt (i := 5) (v := ?_) rfl (by kernel_rfl) (by kernel_rfl) (by kernel_rfl) (fun _ _ _ h => h) (Or.inl ⟨by rfl, ?_⟩) s0 ?_
        rotate_left 1
        · intro w' hS; have y2 := OpAt.c2 hS; have y4 := OpAt.c4 hS; have y1 := OpAt.c1 hS; simp only [Nat.zero_add] at y1 y2 y4; clear hS
          go_simp <;> with_reducible rfl
        try simp only [Act.put, List.setIfInBounds_toArray, List.set_cons_zero, List.set_cons_succ]
        refine wpAnyH_takeAt (i := 7) (v := ?_) rfl (by kernel_rfl) (by kernel_rfl) (by kernel_rfl) (fun _ _ _ h => h) (Or.inl ⟨by rfl, ?_⟩) s0 ?_
        rotate_left 1
        · intro w' hS; have y2 := OpAt.c2 hS; have y4 := OpAt.c4 hS; have y1 := OpAt.c1 hS; simp only [Nat.zero_add] at y1 y2 y4; clear hS
          go_simp <;> with_reducible rfl
        try simp only [Act.put, List.setIfInBounds_toArray, List.set_cons_zero, List.set_cons_succ]
        refine wpAnyH_takeAt (i := 8) (v := ?_) rfl (by kernel_rfl) (by kernel_rfl) (by kernel_rfl) (fun _ _ _ h => h) (Or.inl ⟨by rfl, ?_⟩) s0 ?_
        rotate_left 1
        · intro w' hS; have y2 := OpAt.c2 hS; have y4 := OpAt.c4 hS; have y1 := OpAt.c1 hS; simp only [Nat.zero_add] at y1 y2 y4; clear hS
          go_simp <;> with_reducible rfl
        try simp only [Act.put, List.setIfInBounds_toArray, List.set_cons_zero, List.set_cons_succ]
        refine wpAnyH_takeAt (i := 9) (v := ?_) rfl (by kernel_rfl) (by kernel_rfl) (by kernel_rfl) (fun _ _ _ h => h) (Or.inl ⟨by rfl, ?_⟩) s0 ?_
        rotate_left 1
        · intro w' hS; have y2 := OpAt.c2 hS; have y4 := OpAt.c4 hS; have y1 := OpAt.c1 hS; simp only [Nat.zero_add] at y1 y2 y4; clear hS
          go_simp <;> with_reducible rfl
        try simp only [Act.put, List.setIfInBounds_toArray, List.set_cons_zero, List.set_cons_succ]
        refine wpAnyH_takeAt (i := 10) (v := ?_) rfl (by kernel_rfl) (by kernel_rfl) (by kernel_rfl) (fun _ _ _ h => h) (Or.inl ⟨by rfl, ?_⟩) s0 ?_
        rotate_left 1
        · intro w' hS; have y2 := OpAt.c2 hS; have y4 := OpAt.c4 hS; have y1 := OpAt.c1 hS; simp only [Nat.zero_add] at y1 y2 y4; clear hS
          go_simp <;> with_reducible rfl
        try simp only [Act.put, List.setIfInBounds_toArray, List.set_cons_zero, List.set_cons_succ]
        refine wpAnyH_takeAt (i := 11) (v := ?_) rfl (by kernel_rfl) (by kernel_rfl) (by kernel_rfl) (fun _ _ _ h => h) (Or.inl ⟨by rfl, ?_⟩) s0 ?_
        rotate_left 1
        · intro w' hS; have y2 := OpAt.c2 hS; have y4 := OpAt.c4 hS; have y1 := OpAt.c1 hS; simp only [Nat.zero_add] at y1 y2 y4; clear hS
          go_simp <;> with_reducible rfl
        try simp only [Act.put, List.setIfInBounds_toArray, List.set_cons_zero, List.set_cons_succ]
        refine wpAnyH_takeAt (i := 12) (v := ?_) rfl (by kernel_rfl) (by kernel_rfl) (by kernel_rfl) (fun _ _ _ h => h) (Or.inl ⟨by rfl, ?_⟩) s0 ?_
        rotate_left 1
        · intro w' hS; have y2 := OpAt.c2 hS; have y4 := OpAt.c4 hS; have y1 := OpAt.c1 hS; simp only [Nat.zero_add] at y1 y2 y4; clear hS
          go_simp <;> with_reducible rfl
        try simp only [Act.put, List.setIfInBounds_toArray, List.set_cons_zero, List.set_cons_succ]
        refine wpAnyH_ready (rs := [6]) (by kernel_rfl) (by simp) (allReady_at rfl (fun K hK => ?_))
        go_simp
        refine (bytes_any z _ B3.mem ⟨ba.1, by have := ba.2; omega⟩ (by omega)).mono ?_
        rintro e w4 ⟨rfl, l4⟩
        dsimp only
        have B4 := B3.below l4
        have Q4 := Q3.below l4
        generalize hX : (⟨(bytesOf L c.a z.toNat).toArray⟩ : ByteArray) = X
        refine hK.out _ _ Q4 (fun _ => ?_)
        clear hK K s0
        try simp only [Act.put, List.setIfInBounds_toArray, List.set_cons_zero, List.set_cons_succ]
        refine wpAnyH_ready (rs := [13]) (by kernel_rfl) (by simp) (allReady_at rfl (fun K hK => ?_))
        go_simp
        refine (rbytes_any z _ B4.ref ⟨ba.1, by have := ba.2; omega⟩ (by omega)).mono ?_
        rintro e w5 ⟨rfl, l5⟩
        dsimp only
        rw [hX]
        have B5 := B4.below l5
        have Q5 := Q4.below l5
        refine hK.out _ _ Q5 (fun _ => ?_)
        clear hK K
        try simp only [Act.put, List.setIfInBounds_toArray, List.set_cons_zero, List.set_cons_succ]
        refine wpAnyH_takeAt (i := 14) (v := ?_) rfl (by kernel_rfl) (by kernel_rfl) (by kernel_rfl) (fun _ _ _ h => h) (Or.inl ⟨by rfl, ?_⟩) Q5 ?_
        rotate_left 1
        · intro w' hS; clear hS
          go_simp <;> with_reducible rfl
        try simp only [Act.put, List.setIfInBounds_toArray, List.set_cons_zero, List.set_cons_succ]
        refine wpAnyH_done (by kernel_rfl) ?_ _
        refine NoPanic.normal ?_
        clear A1 B3 Q3 B4 Q4 Q5 O1 hX
        go_wp2_with fail
        refine (cells_any w5 B5.mem).mono ?_
        rintro e v1 ⟨v, rfl, ov, lv⟩
        obtain ⟨ad, cp, ev⟩ := row_form3 ov
        subst ev
        obtain ⟨kv, kc, ko⟩ := (B5.ref.below lv).got
        have qk := heap_cell kc
        have hlen := B5.mem.rise.length
        go_wp2_with fail
        refine (same_yes v1 ov ko hlen).mono ?_
        rintro e v2 ⟨rfl, nd, rfl⟩
        have lv2 : Below w5.heap.size w5 (v1.drewN nd) := lv.trans (drewN_below v1 nd _)
        have ov2 : ∃ xs, (v1.drewN nd).ownsRow w5.heap.size 42 2 (.slice ad (L).length cp) (L).length xs := ⟨_, row_drew ov nd⟩
        clear ov lv kc ko qk
        generalize v1.drewN nd = v3 at lv2 ov2 ⊢
        go_wp2_with fail
        go_loopw [14] (fun u W => ∃ j : Nat, j ≤ (L).length ∧ u = .int .i64 j ∧ (∃ xs, W.ownsRow w5.heap.size 42 2 (.slice ad (L).length cp) (L).length xs) ∧ Below w5.heap.size w5 W) (fun u _ => (L).length - (intOf u).toNat)
        case atStart => exact ⟨0, Nat.zero_le _, rfl, ov2, lv2⟩
        case round =>
          clear lv2 ov2
          obtain ⟨j, hj, rfl, ⟨xs, ox⟩, lx⟩ := hrel
          by_cases hjl : j < (L).length
          · obtain ⟨g, hg, eg⟩ : ∃ g, w5.heap.size ≤ g ∧ ad = some ⟨g, 0, none⟩ := by
              rcases ox.2 with ⟨_, h0⟩ | ⟨g, cap', cur, hv, hb, _⟩
              · omega
              · simp only [Value.slice.injEq] at hv
                exact ⟨g, hb, hv.1⟩
            subst eg
            obtain ⟨u0, hu0⟩ : ∃ u0, wr.cell? ⟨g, j * 2 + 1, none⟩ = some u0 := by
              have := ox.cellAt (j * 2 + 1) (by omega)
              rw [List.getElem?_eq_getElem (by rw [ox.1]; omega)] at this
              exact ⟨_, this⟩
            have fz := own_free ox (j * 2 + 1)
            have os := own_set ox (j * 2 + 1) (.int .u8 0)
            have lo : Below w5.heap.size w5 (wr.setCell ⟨g, j * 2 + 1, none⟩ (.int .u8 0)) := lx.trans ⟨rfl, rfl, rfl, by simp, fun b hb => heap_setCell_other wr _ b _ (by simp; omega)⟩
            clear ox lx
            go_wp2_with fail
            exact ⟨⟨j + 1, by omega, by go_num, os, lo⟩, by simp [intOf]; omega⟩
          · have AZ := B5.below lx
            go_wp2_with fail
            exact ⟨⟨k + 1, P, M, L, rfl, by go_num, by omega, by omega, AZ⟩, by simp [intOf]; omega⟩
      by_cases k4 : c.k = 4
      · have t0 : (c.k == 0) = false := by simpa using k0
        have t1 : (c.k == 1) = false := by simpa using k1
        have t2 : (c.k == 2) = false := by simpa using k2
        have t3 : (c.k == 3) = false := by simpa using k3
        rw [k4] at c0
        clear t0 t1 t2 t3
        go_wp2_with fail
        refine (copy_op w3 A1.mem).mono ?_
        rintro e w4 ⟨px, mx, rfl, x4, hpx, hmx, l4⟩
        have A4 := A1.below l4
        have O4 := O1.below l4
        have hz4 := l4.size
        have hlo := A1.low.size
        have hx1 := x4.lt
        clear c0 c1 c2 c3 c4
        obtain ⟨c0, c1, c2, c3, c4, _, _, _, _, _⟩ := O4
        go_wp2_with fail
        refine (mput_any w4 A4.mem ⟨ba.1, by have := ba.2; omega⟩ (by decide)).mono ?_
        rintro e w5 ⟨rfl, _, g5⟩
        have A5 : DoAt w kb px mx L w5 := ⟨x4.apart g5 (by omega) (by omega), A4.ref1 g5, A4.low.trans (grown_below g5 A4.m A4.low.size), by omega⟩
        clear c0 c1 c2 c3 c4 A1 A4 x4 g5 l4 O1
        go_wp2_with fail
        refine (cells_any w5 A5.mem).mono ?_
        rintro e v1 ⟨v, rfl, ov, lv⟩
        obtain ⟨ad, cp, ev⟩ := row_form3 ov
        subst ev
        obtain ⟨kv, kc, ko⟩ := (A5.ref.below lv).got
        have qk := heap_cell kc
        have hlen := A5.mem.rise.length
        go_wp2_with fail
        refine (same_yes v1 ov ko hlen).mono ?_
        rintro e v2 ⟨rfl, nd, rfl⟩
        have lv2 : Below w5.heap.size w5 (v1.drewN nd) := lv.trans (drewN_below v1 nd _)
        have ov2 : ∃ xs, (v1.drewN nd).ownsRow w5.heap.size 42 2 (.slice ad (L).length cp) (L).length xs := ⟨_, row_drew ov nd⟩
        clear ov lv kc ko qk
        generalize v1.drewN nd = v3 at lv2 ov2 ⊢
        go_wp2_with fail
        go_loopw [14] (fun u W => ∃ j : Nat, j ≤ (L).length ∧ u = .int .i64 j ∧ (∃ xs, W.ownsRow w5.heap.size 42 2 (.slice ad (L).length cp) (L).length xs) ∧ Below w5.heap.size w5 W) (fun u _ => (L).length - (intOf u).toNat)
        case atStart => exact ⟨0, Nat.zero_le _, rfl, ov2, lv2⟩
        case round =>
          clear lv2 ov2
          obtain ⟨j, hj, rfl, ⟨xs, ox⟩, lx⟩ := hrel
          by_cases hjl : j < (L).length
          · obtain ⟨g, hg, eg⟩ : ∃ g, w5.heap.size ≤ g ∧ ad = some ⟨g, 0, none⟩ := by
              rcases ox.2 with ⟨_, h0⟩ | ⟨g, cap', cur, hv, hb, _⟩
              · omega
              · simp only [Value.slice.injEq] at hv
                exact ⟨g, hb, hv.1⟩
            subst eg
            obtain ⟨u0, hu0⟩ : ∃ u0, wr.cell? ⟨g, j * 2 + 1, none⟩ = some u0 := by
              have := ox.cellAt (j * 2 + 1) (by omega)
              rw [List.getElem?_eq_getElem (by rw [ox.1]; omega)] at this
              exact ⟨_, this⟩
            have fz := own_free ox (j * 2 + 1)
            have os := own_set ox (j * 2 + 1) (.int .u8 0)
            have lo : Below w5.heap.size w5 (wr.setCell ⟨g, j * 2 + 1, none⟩ (.int .u8 0)) := lx.trans ⟨rfl, rfl, rfl, by simp, fun b hb => heap_setCell_other wr _ b _ (by simp; omega)⟩
            clear ox lx
            go_wp2_with fail
            exact ⟨⟨j + 1, by omega, by go_num, os, lo⟩, by simp [intOf]; omega⟩
          · have AZ := A5.below lx
            go_wp2_with fail
            exact ⟨⟨k + 1, px, mx, L, rfl, by go_num, by omega, by omega, AZ⟩, by simp [intOf]; omega⟩
      have t0 : (c.k == 0) = false := by simpa using k0
      have t1 : (c.k == 1) = false := by simpa using k1
      have t2 : (c.k == 2) = false := by simpa using k2
      have t3 : (c.k == 3) = false := by simpa using k3
      have t4 : (c.k == 4) = false := by simpa using k4
      clear c1 c2 c3 c4
      go_wp2_with fail
      refine (cells_any w3 A1.mem).mono ?_
      rintro e v1 ⟨v, rfl, ov, lv⟩
      obtain ⟨ad, cp, ev⟩ := row_form3 ov
      subst ev
      obtain ⟨kv, kc, ko⟩ := (A1.ref.below lv).got
      have qk := heap_cell kc
      have hlen := A1.mem.rise.length
      go_wp2_with fail
      refine (same_yes v1 ov ko hlen).mono ?_
      rintro e v2 ⟨rfl, nd, rfl⟩
      have lv2 : Below w3.heap.size w3 (v1.drewN nd) := lv.trans (drewN_below v1 nd _)
      have ov2 : ∃ xs, (v1.drewN nd).ownsRow w3.heap.size 42 2 (.slice ad (L).length cp) (L).length xs := ⟨_, row_drew ov nd⟩
      clear ov lv kc ko qk
      generalize v1.drewN nd = v3 at lv2 ov2 ⊢
      go_wp2_with fail
      go_loopw [14] (fun u W => ∃ j : Nat, j ≤ (L).length ∧ u = .int .i64 j ∧ (∃ xs, W.ownsRow w3.heap.size 42 2 (.slice ad (L).length cp) (L).length xs) ∧ Below w3.heap.size w3 W) (fun u _ => (L).length - (intOf u).toNat)
      case atStart => exact ⟨0, Nat.zero_le _, rfl, ov2, lv2⟩
      case round =>
        clear lv2 ov2
        obtain ⟨j, hj, rfl, ⟨xs, ox⟩, lx⟩ := hrel
        by_cases hjl : j < (L).length
        · obtain ⟨g, hg, eg⟩ : ∃ g, w3.heap.size ≤ g ∧ ad = some ⟨g, 0, none⟩ := by
            rcases ox.2 with ⟨_, h0⟩ | ⟨g, cap', cur, hv, hb, _⟩
            · omega
            · simp only [Value.slice.injEq] at hv
              exact ⟨g, hb, hv.1⟩
          subst eg
          obtain ⟨u0, hu0⟩ : ∃ u0, wr.cell? ⟨g, j * 2 + 1, none⟩ = some u0 := by
            have := ox.cellAt (j * 2 + 1) (by omega)
            rw [List.getElem?_eq_getElem (by rw [ox.1]; omega)] at this
            exact ⟨_, this⟩
          have fz := own_free ox (j * 2 + 1)
          have os := own_set ox (j * 2 + 1) (.int .u8 0)
          have lo : Below w3.heap.size w3 (wr.setCell ⟨g, j * 2 + 1, none⟩ (.int .u8 0)) := lx.trans ⟨rfl, rfl, rfl, by simp, fun b hb => heap_setCell_other wr _ b _ (by simp; omega)⟩
          clear ox lx
          go_wp2_with fail
          exact ⟨⟨j + 1, by omega, by go_num, os, lo⟩, by simp [intOf]; omega⟩
        · have AZ := A1.below lx
          go_wp2_with fail
          exact ⟨⟨k + 1, P, M, L, rfl, by go_num, by omega, by omega, AZ⟩, by simp [intOf]; omega⟩
    · have fin := (fixed3_any wr).mono (fun e w' h => (⟨h.1, A.low.trans (h.2.mono A.low.size)⟩ : e = .returned (.bool true) ∧ Below w.heap.size w w'))
      by_cases hlt : k < n
      · obtain rfl : k = 60 := by omega
        go_wp2_with fail
        refine fin.mono ?_
        rintro e w9 ⟨rfl, l9⟩
        go_wp2_with fail
        go_ret
        exact ⟨rfl, l9⟩
      · obtain rfl : k = n := by omega
        go_wp2_with fail
        refine fin.mono ?_
        rintro e w9 ⟨rfl, l9⟩
        go_wp2_with fail
        go_ret
        exact ⟨rfl, l9⟩
end Go.Proofs.Ytmhgighiekncfaa
namespace Go.Proofs.Ytmhgighiekncfaa.memDoes
open Go.ChangeShapes Go.WideShapes Go.ChangeAt Go.RowKit
open Go.ChangeMaps (open_string shut_string)
set_option linter.unusedVariables false

theorem own : ownKnob Try.prog.godebug = none := by kernel_rfl

set_option maxRecDepth 100000 in
theorem lifted (os : Os) (started : os.Started) (H : Type) (enc : TypeId × Value → H) :
    ReturnsInHanded {} Try.checked os 3 .any (Rows.memDoesSpec.pre6 enc Try.prog Try.f3 Rows.memDoesRow.domain false) (Rows.memDoesSpec.post enc Try.prog Try.f3 false true false false) := by
  refine returnsInHanded_of_change (C := Try.checked) own started (by kernel_rfl) Try.func3
    (ChangeSpec.witness6 (enc := enc) (C := Try.checked) false ⟨#[], #[.slice none 0 0], []⟩ 8 (by kernel_rfl) (by kernel_rfl) (by kernel_rfl) (by kernel_rfl)) ?_
  intro W base args ds gs before hval0 hW hcnd _
  have hval : ∀ (j : Nat) t v, Try.f3.params[j]? = some t → args[j]? = some v → Value.okWide Try.prog W .any base t v := hval0
  have hW' := hW
  obtain ⟨p, q, hA0, hV, rfl, hfz, hnd⟩ := hW
  have hA : DataW.TrodAll enc Try.prog W 0 (fun _ => true) true Try.f3.params.toList args.toList ds p := hA0
  rw [Try.params3] at hA hval
  obtain ⟨v0, vs0, d0, ds0, p0, q0, hargs, rfl, rfl, h0, r0⟩ := trodAll_cons hA
  obtain ⟨rfl, rfl, rfl⟩ := trodAll_nil r0
  obtain rfl : args = #[v0] := by cases args; simp_all
  obtain ⟨rfl, rfl⟩ := trodVars_none hV
  have hv0 := hval 0 22 v0 rfl rfl
  obtain ⟨n, ops, hn, hsc⟩ := open_script hv0 h0
  clear hA0 hval0
  simp only [List.append_nil] at hW'
  refine (memDoes_walk v0 n ops W hsc hn).mono fun e W' ⟨he, hg⟩ => ?_
  subst he
  exact ⟨_, rfl, _, _, _, [], _, [], hW', trodAll_mk1 (shut_bool Try.underlying4 _), trodAll_cons_mk (again_script hg hv0 h0 (fun b hb => by simpa using hb)) trodAll_mk0, rfl, hg.frame _, fun h => by cases h⟩

theorem over : Rows.memDoesRow.holds Try.pinned (OpenSpec.ofChange Rows.memDoesSpec) :=
  OpenClaim.holds_of_wide 3 Try.f3 rfl rfl rfl rfl rfl rfl rfl ⟨rfl, rfl, rfl, rfl, rfl⟩ rfl rfl rfl rfl rfl (by kernel_rfl) Try.func3 (by kernel_rfl)
    (of_decide_eq_true (by kernel_rfl)) (by unfold Func.isWrapper; first | (rw [if_pos (by decide +kernel)]; kernel_rfl) | (rw [if_neg (by decide +kernel)]; exact ⟨rfl, rfl⟩))
    (fun os started H enc _ => lifted os started H enc)

theorem proved : Rows.MemDoesSaid :=
  over
#print axioms proved
end Go.Proofs.Ytmhgighiekncfaa.memDoes
