/-
  BlocksAlone: for any two numbers, Find's blocks of a text of plain instructions and an end (1 to 30 plain ones) are one from the entry alone, and two when it is entered within.
  The walk of BlocksAlone.
  What BlocksAlone stands on: Find of a text of words that do nothing and an end; its image's box while it is laid.
  Texts of plain instructions and an end: their blocks. No program in sight.
-/
import Derived.Test.YtlehjkegacbmnabRows
import Derived.WalkKit
import Derived.ProofKit
import Derived.OpenShut
import Derived.Carry
import Derived.ChangeMaps
import Derived.Test.YtlehjkegacbmnabZC1
import Derived.Test.YtlehjkegacbmnabZC6
import Derived.Test.YtlehjkegacbmnabZC7
import Derived.Test.YtlehjkegacbmnabZD5
import Derived.Test.YtlehjkegacbmnabZa
set_option linter.unusedVariables false
namespace Go.Proofs.Ytlehjkegacbmnab
namespace Bl
open Pm Ip

/-- A text of k plain instructions and an end behind them. -/
structure Line (T : Tx) (k : Nat) : Prop where
  n : T.n = k + 1
  err : ∀ j, j ≤ k → T.err (T.adr j) = 0
  step : ∀ j, j < k → T.suc (T.adr j) = [T.adr (j + 1)]
  stop : T.suc (T.adr k) = []
  plain : ∀ j, j < k → T.ends (T.adr j) = false
def allA (T : Tx) (k : Nat) : List Nat := (List.range (k + 1)).map T.adr
theorem mem_allA {T : Tx} {k a : Nat} : a ∈ allA T k ↔ ∃ j, j ≤ k ∧ a = T.adr j := by
  unfold allA
  rw [List.mem_map]
  constructor
  · rintro ⟨j, hj, rfl⟩; exact ⟨j, by have := List.mem_range.1 hj; omega, rfl⟩
  · rintro ⟨j, hj, rfl⟩; exact ⟨j, List.mem_range.2 (by omega), rfl⟩
theorem line_closed {T : Tx} {k : Nat} (h : Line T k) {seeds : List Nat} (h0 : T.adr 0 ∈ seeds) (hs : ∀ a ∈ seeds, ∃ j, j ≤ k ∧ a = T.adr j) : Closed T seeds (allA T k) := by
  refine ⟨fun a ha => mem_allA.2 (hs a ha), fun b hb he a ha => ?_, fun a ha => ?_⟩
  · obtain ⟨j, hj, rfl⟩ := mem_allA.1 hb
    by_cases e : j = k
    · subst e; rw [h.stop] at ha; simp at ha
    · rw [h.step j (by omega)] at ha
      simp at ha
      exact mem_allA.2 ⟨j + 1, by omega, ha⟩
  · obtain ⟨j, hj, rfl⟩ := mem_allA.1 ha
    clear ha
    induction j with
    | zero => exact reach_seed h0
    | succ j ih => exact reach_step (ih (by omega)) (h.err j (by omega)) (by rw [h.step j (by omega)]; simp)
theorem line_err {T : Tx} {k : Nat} (h : Line T k) : errL T.err (allA T k) = 0 := by
  rcases errL_holds T.err (allA T k) with ⟨h1, _⟩ | ⟨h1, h2, h3, _⟩
  · exact h1
  · obtain ⟨j, hj, e⟩ := mem_allA.1 h2
    rw [e, h.err j hj] at h3
    exact absurd h3.symm h1
theorem line_leader {T : Tx} {k : Nat} (h : Line T k) (seeds : List Nat) (a : Nat) : leader T seeds (allA T k) a = seeds.contains a := by
  unfold leader
  have e : ((allA T k).any fun b => decide (T.err b = 0) && T.ends b && (T.suc b).contains a) = false := by
    rw [List.any_eq_false]
    intro b hb
    obtain ⟨j, hj, rfl⟩ := mem_allA.1 hb
    by_cases e : j = k
    · subst e; rw [h.stop]; simp
    · rw [h.plain j (by omega)]; simp
  rw [e, Bool.or_false]
theorem line_in {T : Tx} {k j : Nat} (hj : j ≤ k) : (allA T k).contains (T.adr j) = true := List.contains_iff_mem.2 (mem_allA.2 ⟨j, hj, rfl⟩)
theorem line_begins {T : Tx} {k w : Nat} (h : Line T k) (seeds : List Nat) (hw : w < k) : begins T seeds (allA T k) (w + 1) = seeds.contains (T.adr (w + 1)) := by
  unfold begins
  rw [Nat.add_sub_cancel, decide_eq_false (Nat.succ_ne_zero w), line_in (by omega), h.plain w hw, line_leader h]
  rfl
theorem line_one {T : Tx} {k : Nat} (h : Line T k) {seeds : List Nat} (hs : ∀ a, a ∈ seeds ↔ a = T.adr 0) : AnsF T seeds 0 [(T.adr 0, k + 1)] := by
  have hb : ∀ w, w ≤ k → blks T seeds (allA T k) (w + 1) = [(0, w + 1)] := by
    intro w hw
    induction w with
    | zero => rw [blks, if_pos (line_in (Nat.zero_le _)), if_pos (by unfold begins; rfl)]; rfl
    | succ w ih =>
      have e : ¬ begins T seeds (allA T k) (w + 1) = true := by
        rw [line_begins h _ (by omega), List.contains_iff_mem, hs]
        unfold Tx.adr; omega
      rw [blks, if_pos (line_in hw), if_neg e, ih (by omega)]; rfl
  refine ⟨allA T k, line_closed h ((hs _).2 rfl) (fun a ha => ⟨0, Nat.zero_le _, (hs a).1 ha⟩), (line_err h).symm, ?_⟩
  rw [if_pos rfl, h.n, hb k (Nat.le_refl _)]; rfl
theorem line_two {T : Tx} {k c : Nat} (h : Line T k) {seeds : List Nat} (hc0 : 0 < c) (hc : c ≤ k) (hs : ∀ a, a ∈ seeds ↔ a = T.adr 0 ∨ a = T.adr c) : AnsF T seeds 0 [(T.adr 0, c), (T.adr c, k + 1 - c)] := by
  have hb : ∀ w, w ≤ k → blks T seeds (allA T k) (w + 1) = if w < c then [(0, w + 1)] else [(0, c), (c, w + 1 - c)] := by
    intro w hw
    induction w with
    | zero => rw [blks, if_pos (line_in (Nat.zero_le _)), if_pos (by unfold begins; rfl), if_pos hc0]; rfl
    | succ w ih =>
      have ih := ih (by omega)
      rw [blks, if_pos (line_in hw)]
      by_cases e : w + 1 = c
      · have eb : begins T seeds (allA T k) (w + 1) = true := by
          rw [line_begins h _ (by omega), List.contains_iff_mem, hs, e]; exact .inr rfl
        rw [if_pos eb, ih, if_pos (by omega), if_neg (by omega), ← e]
        rw [show w + 1 + 1 - (w + 1) = 1 by omega]; rfl
      · have eb : ¬ begins T seeds (allA T k) (w + 1) = true := by
          rw [line_begins h _ (by omega), List.contains_iff_mem, hs]
          unfold Tx.adr; omega
        rw [if_neg eb, ih]
        by_cases e2 : w < c
        · rw [if_pos e2, if_pos (by omega)]; rfl
        · rw [if_neg e2, if_neg (by omega), show w + 1 + 1 - c = (w + 1 - c) + 1 by omega]; rfl
  refine ⟨allA T k, line_closed h ((hs _).2 (.inl rfl)) (fun a ha => ?_), (line_err h).symm, ?_⟩
  · rcases (hs a).1 ha with e | e
    · exact ⟨0, Nat.zero_le _, e⟩
    · exact ⟨c, hc, e⟩
  · rw [if_pos rfl, h.n, hb k (Nat.le_refl _), if_neg (by omega)]; rfl

/-- The law's text: k words that do nothing, and an end. -/
def lineW (k : Nat) : List Nat := List.replicate k 19 ++ [1048691]
def lineI (k : Nat) : Img := ⟨(BitVec.ofNat 32 8192), (BitVec.ofNat 32 8192), lineW k, 0⟩
theorem lineW_len (k : Nat) : (lineW k).length = k + 1 := by unfold lineW; simp
theorem lineI_ok {k : Nat} (hk : k ≤ 30) : (lineI k).ok := by
  refine ⟨show ((BitVec.ofNat 32 8192)).toNat % 4 = 0 by decide, ?_, ?_, fun n hn => ?_⟩
  · show ((BitVec.ofNat 32 8192)).toNat + 4 * (lineW k).length ≤ _; rw [lineW_len]; show 8192 + 4 * (k + 1) ≤ _; omega
  · show (lineW k).length ≤ _; rw [lineW_len]; omega
  · rcases List.mem_append.1 (show n ∈ List.replicate k 19 ++ [1048691] from hn) with h | h
    · rw [(List.mem_replicate.1 h).2]; decide
    · simp at h; subst h; decide
theorem word_at {i : Img} (hi : i.ok) {w n : Nat} (h : i.words[w]? = some n) : insA i ((txI i).adr w) = insW (adrB n) ∧ errA i ((txI i).adr w) = errW (adrB n) := by
  have hw := (List.getElem?_eq_some_iff.1 h).1
  have hh := adr_hit hi hw
  have ha : (txI i).adr w < 4294967296 := (hit_word hi hh).1
  have hH : Hit i (adrB ((txI i).adr w)) w := by
    have h1 := hi.1
    have hb := adrB_nat ha
    unfold Hit
    rw [hb]
    show (((i.base.toNat + 4 * w : Nat)) : Int) % 4 = 0 ∧ ((i.base.toNat + 4 * w : Nat) : Int) = _
    omega
  have hv := (hit_yes hi hH h).2
  have hwA : wordA i ((txI i).adr w) = adrB n := by unfold wordA; rw [hv]
  unfold insA errA
  rw [if_pos (show hitA i ((txI i).adr w) = true from hh), if_pos (show hitA i ((txI i).adr w) = true from hh), hwA]
  exact ⟨rfl, rfl⟩
set_option maxRecDepth 100000 in
theorem nop_ins : insW (adrB 19) = ⟨18, 0, 0, 0, 0⟩ := by kernel_rfl
set_option maxRecDepth 100000 in
theorem nop_err : errW (adrB 19) = 0 := by kernel_rfl
set_option maxRecDepth 100000 in
theorem end_ins : insW (adrB 1048691) = ⟨46, 0, 0, 0, 0⟩ := by kernel_rfl
set_option maxRecDepth 100000 in
theorem end_err : errW (adrB 1048691) = 0 := by kernel_rfl
theorem end_aft (a : Nat) : aftI ⟨46, 0, 0, 0, 0⟩ a = [] := by unfold aftI aft; rw [if_pos (.inr rfl)]
theorem nop_ends : endsI ⟨18, 0, 0, 0, 0⟩ = false := by decide
theorem line_of {k : Nat} (hk : k ≤ 30) : Line (txI (lineI k)) k := by
  have hok := lineI_ok hk
  have hn : ∀ j, j < k → (lineI k).words[j]? = some 19 := fun j hj => by
    show (List.replicate k 19 ++ [1048691])[j]? = _
    rw [List.getElem?_append_left (by simpa using hj)]
    simp [hj]
  have he : (lineI k).words[k]? = some 1048691 := by
    show (List.replicate k 19 ++ [1048691])[k]? = _
    rw [List.getElem?_append_right (by simp)]; simp
  have hen : ∀ j, j < k → (txI (lineI k)).ends ((txI (lineI k)).adr j) = false := fun j hj => by
    show endsI (insA (lineI k) ((txI (lineI k)).adr j)) = false
    rw [(word_at hok (hn j hj)).1, nop_ins]; exact nop_ends
  have her : ∀ j, j ≤ k → (txI (lineI k)).err ((txI (lineI k)).adr j) = 0 := fun j hj => by
    show errA (lineI k) ((txI (lineI k)).adr j) = 0
    by_cases e : j = k
    · subst e; rw [(word_at hok he).2]; exact end_err
    · rw [(word_at hok (hn j (by omega))).2]; exact nop_err
  refine ⟨lineW_len k, her, fun j hj => ?_, ?_, hen⟩
  · rw [(txI_fair hok).plain _ (her j (by omega)) (hen j hj)]
    have hb : (txI (lineI k)).base = 8192 := rfl
    unfold Tx.adr
    rw [hb]
    congr 1
    omega
  · show aftI (insA (lineI k) ((txI (lineI k)).adr k)) ((txI (lineI k)).adr k) = []
    rw [(word_at hok he).1, end_ins]; exact end_aft _
/-- What Find answers of such a text. -/
theorem alone_one {k e : Nat} {l : List (Nat × Nat)} {es : List Nat} (hk : k ≤ 30) (hes : ∀ a ∈ es, a = 8192) (h : AnsF (txI (lineI k)) (seedsI (lineI k) es) e l) : e = 0 ∧ l = [(8192, k + 1)] := by
  have h1 := line_one (line_of hk) (seeds := [8192]) (fun a => by rw [List.mem_singleton]; rfl)
  have := h.same h1 (fun a => by
    unfold seedsI
    rw [List.mem_singleton, List.mem_cons]
    constructor
    · rintro (e | e)
      · exact e
      · exact hes a e
    · exact fun e => .inl e)
  exact this
theorem alone_two {k c e : Nat} {l : List (Nat × Nat)} (hk : k ≤ 30) (hc0 : 0 < c) (hc : c ≤ k) (h : AnsF (txI (lineI k)) (seedsI (lineI k) [8192 + 4 * c]) e l) : e = 0 ∧ l = [(8192, c), (8192 + 4 * c, k + 1 - c)] := by
  have h1 := line_two (line_of hk) (c := c) (seeds := [8192, 8192 + 4 * c]) hc0 hc (fun a => by simp only [List.mem_cons, List.not_mem_nil, or_false]; exact Iff.rfl)
  have := h.same h1 (fun a => Iff.rfl)
  exact this
end Bl
end Go.Proofs.Ytlehjkegacbmnab
namespace Go.Proofs.Ytlehjkegacbmnab
open Go.RowKit Go.Lib Go.Sort Go.Maps Ip Bl Pm
set_option linter.unusedSimpArgs false
set_option linter.unusedVariables false

theorem finda_any (k : Nat) (hk : k ≤ 30) (v : Value) (w : World) (hS : SlW w v (lineW k)) : Calls Try.prog 5 #[imgV (lineI k) v, .slice none 0 0] w fun e W' => ∃ u, e = .returned (.tuple #[u, .int .i64 0]) ∧ W'.ownsRow w.heap.size 31 2 u 1 (cellsB [(8192, k + 1)]) ∧ Below w.heap.size w W' := by
  refine (finds_any (lineI k) v (.slice none 0 0) [] (fun a ha => by simp at ha) (by decide) (lineI_ok hk) w hS (slw_nil w)).mono ?_
  rintro e W' ⟨er, l, hans, u, rfl, hrow, hb⟩
  obtain ⟨rfl, rfl⟩ := alone_one hk (fun a ha => by simp at ha) hans
  exact ⟨u, rfl, hrow, hb⟩
theorem findb_any (k : Nat) (hk : k ≤ 30) (v ve : Value) (w : World) (hS : SlW w v (lineW k)) (hE : SlW w ve [8192]) : Calls Try.prog 5 #[imgV (lineI k) v, ve] w fun e W' => ∃ u, e = .returned (.tuple #[u, .int .i64 0]) ∧ W'.ownsRow w.heap.size 31 2 u 1 (cellsB [(8192, k + 1)]) ∧ Below w.heap.size w W' := by
  refine (finds_any (lineI k) v ve [8192] (fun a ha => by simp at ha; omega) (by decide) (lineI_ok hk) w hS hE).mono ?_
  rintro e W' ⟨er, l, hans, u, rfl, hrow, hb⟩
  obtain ⟨rfl, rfl⟩ := alone_one hk (fun a ha => by simpa using ha) hans
  exact ⟨u, rfl, hrow, hb⟩
theorem findc_any (k c E : Nat) (hk : k ≤ 30) (hc0 : 0 < c) (hc : c ≤ k) (hE : 8192 + 4 * c = E) (v ve : Value) (w : World) (hS : SlW w v (lineW k)) (hV : SlW w ve [E]) : Calls Try.prog 5 #[imgV (lineI k) v, ve] w fun e W' => ∃ u, e = .returned (.tuple #[u, .int .i64 0]) ∧ W'.ownsRow w.heap.size 31 2 u 2 (cellsB [(8192, c), (E, k + 1 - c)]) ∧ Below w.heap.size w W' := by
  subst hE
  refine (finds_any (lineI k) v ve [8192 + 4 * c] (fun a ha => by simp at ha; omega) (by simp) (lineI_ok hk) w hS hV).mono ?_
  rintro e W' ⟨er, l, hans, u, rfl, hrow, hb⟩
  obtain ⟨rfl, rfl⟩ := alone_two hk hc0 hc hans
  exact ⟨u, rfl, hrow, hb⟩
set_option maxHeartbeats 1000000 in
theorem eqlB (a b a' b' : Int) (w : World) : (binOp .eql 31 (.agg #[.int .u32 a, .int .i64 b]) (.agg #[.int .u32 a', .int .i64 b'])).run Try.prog w = .ok (.bool (sameB a b a' b')) w := by
  by_cases h1 : a = a' <;> by_cases h2 : b = b' <;> simp [go_sem, sameB, h1, h2]
/-- The image's box while its words are laid. -/
structure Al (w : World) (v : Value) (ws : List Nat) (W : World) : Prop where
  ib : W.heap[w.heap.size]? = some (.cells #[.int .u32 8192, .int .u32 8192, v, .int .i64 0] 25 (0, 0))
  row : W.ownsRow (w.heap.size + 1) 22 1 v ws.length (ws.map wordV)
  low : Below w.heap.size w W
  big : w.heap.size + 1 ≤ W.heap.size
theorem Al.new (w : World) (cs : Array Value) : Al w (.slice none 0 0) [] ((w.alloc (.cells cs 25)).setRow w.heap.size #[.int .u32 8192, .int .u32 8192, .slice none 0 0, .int .i64 0]) :=
  ⟨setRow_heap _ _ _ _ _ _ (heap_alloc_new w _), World.ownsRow_nil _ _ _ _, below_setRowE ((Below.refl _ w).alloc (Nat.le_refl _) _) (Nat.le_refl _) _, by simp⟩
theorem Al.app {w W W' : World} {v v' : Value} {ws : List Nat} {o : Obj} {x : Nat} (h : Al w v ws W) (hown : W'.ownsRow (w.heap.size + 1) 22 1 v' (ws.length + 1) (ws.map wordV ++ [.int .u32 (x : Int)])) (hg : (W.alloc o).grownBy W' v.ownBlock) : Al w v' (ws ++ [x]) (W'.setCell ⟨w.heap.size, 2, none⟩ v') := by
  have hbig := h.big
  have hlow := h.low.alloc h.low.size o
  have hib : W'.heap[w.heap.size]? = some (.cells #[.int .u32 8192, .int .u32 8192, v, .int .i64 0] 25 (0, 0)) :=
    (hg.block _ (by rw [World.size_alloc]; omega) (fun e => by have := (h.row.lt _ e.symm).1; omega)).trans (keptN ((Below.refl _ W).alloc (Nat.le_refl _) o) h.ib)
  have hs := grown_setCell W' ⟨w.heap.size, 2, none⟩ v'
  have hl2 := hlow.grown hg (by rw [World.size_alloc]; omega) (fun k e => by have := (h.row.lt k e).1; omega)
  refine ⟨by have := heap_setCell_same W' w.heap.size 2 _ _ v' hib; rw [this]; rfl, ?_, hl2.setCell (by show w.heap.size ≤ w.heap.size; omega) _, ?_⟩
  · have hk := hown.kept hs (.inr (fun e => Nat.not_succ_le_self w.heap.size (hown.lt _ e).1))
    simpa [wordV] using hk
  · have h1 := hs.size
    have h2 := hg.size
    rw [World.size_alloc] at h2
    omega
/-- .. and when they are. -/
structure An (w : World) (k : Nat) (v : Value) (W : World) : Prop where
  ib : W.heap[w.heap.size]? = some (.cells (imgC (lineI k) v) 25 (0, 0))
  lw : SlW W v (lineW k)
  low : Below w.heap.size w W
theorem An.below {w W W' : World} {k : Nat} {v : Value} (h : An w k v W) (hb : Below W.heap.size W W') : An w k v W' := ⟨keptN hb h.ib, h.lw.below hb, h.low.trans (hb.mono h.low.size)⟩
theorem Al.an {w W : World} {k : Nat} {v : Value} (h : Al w v (lineW k) W) : An w k v W := ⟨h.ib, slw_of_owns h.row, h.low⟩
end Go.Proofs.Ytlehjkegacbmnab
namespace Go.Proofs.Ytlehjkegacbmnab
open Go.RowKit Go.Lib Go.Sort Go.Maps Ip Bl Pm
set_option linter.unusedSimpArgs false
set_option linter.unusedVariables false

theorem Al.kept {w W W' : World} {v : Value} {ws : List Nat} {o : Obj} (h : Al w v ws W) (hg : (W.alloc o).grownBy W' v.ownBlock) : W'.heap[w.heap.size]? = some (.cells #[.int .u32 8192, .int .u32 8192, v, .int .i64 0] 25 (0, 0)) := by
  have hbig := h.big
  exact (hg.block _ (by rw [World.size_alloc]; omega) (fun e => by have := (h.row.lt _ e.symm).1; omega)).trans (keptN ((Below.refl _ W).alloc (Nat.le_refl _) o) h.ib)
theorem own_below8 {W W' : World} {B : Nat} {t : TypeId} {s : Nat} {p : Option Addr} {m c n : Nat} {xs : List Value} (h : W.ownsRow B t s (.slice p m c) n xs) (hb : Below W.heap.size W W') : W'.ownsRow B t s (.slice p m c) n xs :=
  h.kept (grown_of_below hb) (by cases p <;> simp [Value.ownBlock])
theorem one_block {W : World} {B : Nat} {p : Option Addr} {c x y : Nat} (h : W.ownsRow B 31 2 (.slice p 1 c) 1 (cellsB [(x, y)])) : ∃ g, p = some ⟨g, 0, none⟩ ∧ W.cell? ⟨g, 0, none⟩ = some (.int .u32 (x : Int)) ∧ W.cell? ⟨g, 1, none⟩ = some (.int .i64 (y : Int)) := by
  obtain ⟨g, rfl⟩ := own_some h (by omega)
  exact ⟨g, rfl, by rw [h.cellAt _ (by omega)]; rfl, by rw [h.cellAt _ (by omega)]; rfl⟩
theorem two_blocks {W : World} {B : Nat} {p : Option Addr} {c x y x' y' : Nat} (h : W.ownsRow B 31 2 (.slice p 2 c) 2 (cellsB [(x, y), (x', y')])) : ∃ g, p = some ⟨g, 0, none⟩ ∧ (W.cell? ⟨g, 0, none⟩ = some (.int .u32 (x : Int)) ∧ W.cell? ⟨g, 1, none⟩ = some (.int .i64 (y : Int))) ∧ (W.cell? ⟨g, 2, none⟩ = some (.int .u32 (x' : Int)) ∧ W.cell? ⟨g, 3, none⟩ = some (.int .i64 (y' : Int))) := by
  obtain ⟨g, rfl⟩ := own_some h (by omega)
  exact ⟨g, rfl, ⟨by rw [h.cellAt _ (by omega)]; rfl, by rw [h.cellAt _ (by omega)]; rfl⟩, ⟨by rw [h.cellAt _ (by omega)]; rfl, by rw [h.cellAt _ (by omega)]; rfl⟩⟩
set_option maxHeartbeats 4000000 in
set_option maxRecDepth 100000 in
theorem blocksAlone_walk (n cut : Int) (w : World) (_ : -9223372036854775808 ≤ n ∧ n ≤ 9223372036854775807) (_ : -9223372036854775808 ≤ cut ∧ cut ≤ 9223372036854775807) :
    Calls Try.prog 3 #[.int .i64 n, .int .i64 cut] w fun e w' => e = .returned (.bool true) ∧ Below w.heap.size w w' := by
  obtain ⟨d1, h10, h11, h1⟩ := Wd.and16 n
  obtain ⟨d2, h20, h21, h2⟩ := Wd.and16 cut
  obtain ⟨i0, hii, hz0, hz1, hz2⟩ := info_parts infoU
  have hbx := heap_alloc_new w (.cells #[.int .u32 0, .int .u32 0, .slice none 0 0, .int .i64 0] 25)
  have HAL := hideE (Al.new w #[.int .u32 0, .int .u32 0, .slice none 0 0, .int .i64 0])
  go_enter Try.func3, Try.ntmps3
  go_upto_region 2 with fail
  obtain ⟨k, hk⟩ : ∃ k : Nat, 1 + d1 % 30 = (k : Int) := ⟨(1 + d1 % 30).toNat, by omega⟩
  have hk1 : 1 ≤ k := by omega
  have hk30 : k ≤ 30 := by omega
  rw [hk]
  clear hk h1 h10 h11
  have hkz : ((k : Int) == 0) = false := beq_eq_false_iff_ne.2 (by omega)
  have hkp : (0 : Int) < (k : Int) := by omega
  go_upto_region 3 with fail
  obtain ⟨c, hc⟩ : ∃ c : Nat, d2 % (k : Int) = (c : Int) := ⟨(d2 % (k : Int)).toNat, by have := Int.emod_nonneg d2 (b := (k : Int)) (by omega); omega⟩
  have hck : c < k := by have := Int.emod_lt_of_pos d2 hkp; omega
  rw [hc]
  clear hc h2 h20 h21
  go_upto_region 4 with (refine wpList_store_row rfl 25 _ _ rfl w.heap.size _ rfl rfl _ _ hbx (by kernel_rfl) rfl (by kernel_rfl) ?_)
  refine gen_world (Al w (.slice none 0 0) []) HAL.out ?_
  clear HAL hbx
  intro wa h1
  go_upto_region 5 with fail
  go_loopg [8] k (fun q j W => ∃ (t : Nat) (v : Value), t + q = k ∧ j = .int .i64 (t : Int) ∧ Al w v (List.replicate t 19) W)
  case atStart => exact ⟨0, _, by omega, rfl, h1⟩
  case round =>
    clear h1
    obtain ⟨t, v, htq, rfl, h2⟩ := hrel
    have hrow := h2.row
    rw [List.length_replicate] at hrow
    obtain ⟨pv, cv, rfl⟩ := own_slice' hrow
    obtain ⟨⟨m0, m1, m2, m3⟩, f0, f1, f2, f3⟩ := four h2.ib
    have hsz := h2.big
    have H2 := hideE h2
    clear h2
    cases gk with
    | succ q =>
      have ht : (t : Int) < (k : Int) := by omega
      have hwt : IntKind.i64.wrap ((t : Int) + 1) = (t : Int) + 1 := wrE (by omega) (by omega)
      go_wp2_with (at_builtin; refine wpList_append_own _ rfl _ _ 23 rfl (w.heap.size + 1) 22 i0 (.int .u32 0) 1 4 Try.underlying23 hii hz0 hz1 hz2 rfl (by decide) _ _ _ rfl (hrow.alloc _) ⟨_, 0, none⟩ 1 1 [.int .u32 19] rfl rfl (cell_one_new _ _ _) (by simp [Value.oneCell']) (by unfold maxLen; omega) (by omega) (by simp; omega) ?_; intro v2 w3 hown2 hgrow _; obtain ⟨pv2, cv2, rfl⟩ := own_slice' hown2; obtain ⟨⟨n0, n1, n2, n3⟩, g0, g1, g2, g3⟩ := four (H2.out.kept hgrow))
      go_roundg q
      case measure => omega
      case rel => exact ⟨t + 1, _, by omega, by simp, by rw [List.replicate_succ']; exact H2.out.app (x := 19) (by rw [List.length_replicate]; exact hown2) hgrow⟩
    | zero =>
      obtain rfl : t = k := by omega
      have ht : ¬ ((t : Int) < (t : Int)) := by omega
      go_upto_region 9 with (at_builtin; refine wpList_append_own _ rfl _ _ 23 rfl (w.heap.size + 1) 22 i0 (.int .u32 0) 1 4 Try.underlying23 hii hz0 hz1 hz2 rfl (by decide) _ _ _ rfl (hrow.alloc _) ⟨_, 0, none⟩ 1 1 [.int .u32 1048691] rfl rfl (cell_one_new _ _ _) (by simp [Value.oneCell']) (by unfold maxLen; omega) (by omega) (by simp; omega) ?_; intro v2 w3 hown2 hgrow _; obtain ⟨pv2, cv2, rfl⟩ := own_slice' hown2; obtain ⟨⟨n0, n1, n2, n3⟩, g0, g1, g2, g3⟩ := four (H2.out.kept hgrow))
      have h3 := (H2.out.app (x := 1048691) (by rw [List.length_replicate]; exact hown2) hgrow : Al w _ (List.replicate t 19 ++ [1048691]) _)
      refine gen_world (An w t (.slice pv2 (t + 1) cv2)) (Al.an h3) ?_
      clear h3 H2 hown2 hgrow hrow ht m0 m1 m2 m3 f0 f1 f2 f3 n0 n1 n2 n3 g0 g1 g2 g3 hsz
      intro wb h4
      have hib := h4.ib
      have hlw := h4.lw
      have H4 := hideE h4
      clear h4
      go_upto_region 10 with (first
        | (refine wpList_load_row rfl 25 _ rfl w.heap.size rfl _ _ _ _ hib Try.underlying25 rfl (by kernel_rfl) ?_)
        | (go_at_call 5; refine (finda_any t hk30 _ _ hlw).mono ?_; rintro e wc ⟨u1, rfl, hr1, hb1⟩; obtain ⟨p1, c1, rfl⟩ := own_slice' hr1))
      refine gen_world (fun W => An w t (.slice pv2 (t + 1) cv2) W ∧ W.ownsRow wb.heap.size 31 2 (.slice p1 1 c1) 1 (cellsB [(8192, t + 1)])) ⟨H4.out.below hb1, hr1⟩ ?_
      clear hib hlw H4 hb1 hr1
      rintro wd ⟨h5, hr1⟩
      have hib := h5.ib
      have hlw := h5.lw
      have H5 := hideE h5
      have HR1 := hideE hr1
      obtain ⟨E, hE⟩ : ∃ E, 8192 + 4 * c = E := ⟨_, rfl⟩
      have hw4 : IntKind.i64.wrap (4 * (c : Int)) = 4 * (c : Int) := wrE (by omega) (by omega)
      have HE := hideE hE
      obtain ⟨T1, hT1⟩ : ∃ T1, t + 1 = T1 := ⟨_, rfl⟩
      have HT1 := hideE hT1
      have hwt1 : IntKind.i64.wrap (1 + (t : Int)) = (T1 : Int) := by rw [wrE (by omega) (by omega)]; omega
      have hwt2 : IntKind.i64.wrap ((t : Int) + 1) = (T1 : Int) := by rw [wrE (by omega) (by omega)]; omega
      have hq := neqB
      have hq2 := eqlB
      clear h5 hr1 hE hT1
      by_cases hc0 : c = 0
      · have hle : (8192 : Int) + 4 * (c : Int) = 8192 := by omega
        have hcz : ((c : Int) == 0) = true := by rw [hc0]; rfl
        have hse := slw_lit wd #[.int .u32 8192] [8192] rfl
        have HSE := hideE hse
        have HLW := hideE (hlw.alloc (.cells #[.int .u32 8192] 22))
        have HB0 := hideE ((Below.refl wd.heap.size wd).alloc (Nat.le_refl _) (.cells #[.int .u32 8192] 22))
        clear hse hlw hc0
        go_upto_region 11 with (first
          | (refine wpList_load_row rfl 25 _ rfl w.heap.size rfl _ _ _ _ hib Try.underlying25 rfl (by kernel_rfl) ?_)
          | (go_at_call 5; refine (findb_any t hk30 _ _ _ HLW.out HSE.out).mono ?_; rintro e we ⟨u2, rfl, hr2, hb2⟩; obtain ⟨p2, c2, rfl⟩ := own_slice' hr2))
        have hb3 := HB0.out.trans (hb2.mono HB0.out.size)
        obtain ⟨g1, rfl, a3, a4⟩ := one_block (own_below8 HR1.out hb3)
        have HL := hideE (H5.out.below hb3).low
        rw [HT1.out] at a4
        have hs1 : sameB (8192 : Int) (T1 : Int) (8192 : Int) (T1 : Int) = true := decide_eq_true ⟨rfl, rfl⟩
        clear hib H5 HR1 HSE HLW HB0 hr2 hb2 hb3
        go_wp2_with (go_at_call 6; refine (fixed8_any _).mono ?_; rintro e wf ⟨rfl, hbf⟩)
        go_ret
        exact ⟨rfl, HL.out.trans (hbf.mono HL.out.size)⟩
      · have hle : (8192 : Int) + 4 * (c : Int) = (E : Int) := by have := HE.out; omega
        have hcz : ((c : Int) == 0) = false := beq_eq_false_iff_ne.2 (by omega)
        have hse := slw_lit wd #[.int .u32 (E : Int)] [E] rfl
        have HSE := hideE hse
        have HLW := hideE (hlw.alloc (.cells #[.int .u32 (E : Int)] 22))
        have HB0 := hideE ((Below.refl wd.heap.size wd).alloc (Nat.le_refl _) (.cells #[.int .u32 (E : Int)] 22))
        have hcp : 0 < c := by omega
        have HFC := hideE (fun ve w2 => findc_any t c E hk30 hcp (by omega) HE.out (.slice pv2 (t + 1) cv2) ve w2)
        obtain ⟨D, hD⟩ : ∃ D, t + 1 - c = D := ⟨_, rfl⟩
        rw [hD] at HFC
        have hwd : IntKind.i64.wrap ((T1 : Int) - (c : Int)) = (D : Int) := by have := HT1.out; rw [wrE (by omega) (by omega)]; omega
        clear hse hlw hc0 hD hcp
        go_upto_region 11 with (first
          | (refine wpList_load_row rfl 25 _ rfl w.heap.size rfl _ _ _ _ hib Try.underlying25 rfl (by kernel_rfl) ?_)
          | (go_at_call 5; refine (HFC.out _ _ HLW.out HSE.out).mono ?_; rintro e we ⟨u2, rfl, hr2, hb2⟩; obtain ⟨p2, c2, rfl⟩ := own_slice' hr2))
        have hb3 := HB0.out.trans (hb2.mono HB0.out.size)
        obtain ⟨g1, rfl, a3, a4⟩ := one_block (own_below8 HR1.out hb3)
        obtain ⟨g2, rfl, ⟨a5, a6⟩, a7, a8⟩ := two_blocks hr2
        have HL := hideE (H5.out.below hb3).low
        rw [HT1.out] at a4
        have hs1 : sameB (8192 : Int) (T1 : Int) (8192 : Int) (T1 : Int) = true := decide_eq_true ⟨rfl, rfl⟩
        have hs2 : sameB (8192 : Int) (c : Int) (8192 : Int) (c : Int) = true := decide_eq_true ⟨rfl, rfl⟩
        have hs3 : sameB (E : Int) (D : Int) (E : Int) (D : Int) = true := decide_eq_true ⟨rfl, rfl⟩
        clear hib H5 HR1 HSE HLW HB0 HFC hr2 hb2 hb3
        go_wp2_with (go_at_call 6; refine (fixed8_any _).mono ?_; rintro e wf ⟨rfl, hbf⟩)
        go_ret
        exact ⟨rfl, HL.out.trans (hbf.mono HL.out.size)⟩
end Go.Proofs.Ytlehjkegacbmnab
namespace Go.Proofs.Ytlehjkegacbmnab.blocksAlone
open Go.ChangeShapes Go.WideShapes Go.ChangeAt Go.RowKit
open Go.ChangeMaps (open_string shut_string)
set_option linter.unusedVariables false

theorem own : ownKnob Try.prog.godebug = none := by kernel_rfl

set_option maxRecDepth 100000 in
theorem lifted (os : Os) (started : os.Started) (H : Type) (enc : TypeId × Value → H) :
    ReturnsInHanded {} Try.checked os 3 .any (Rows.blocksAloneSpec.pre6 enc Try.prog Try.f3 Rows.blocksAloneRow.domain false) (Rows.blocksAloneSpec.post enc Try.prog Try.f3 false true false false) := by
  refine returnsInHanded_of_change (C := Try.checked) own started (by kernel_rfl) Try.func3
    (ChangeSpec.witness6 (enc := enc) (C := Try.checked) false ⟨#[], #[.int .i64 0, .int .i64 0], []⟩ 8 (by kernel_rfl) (by kernel_rfl) (by kernel_rfl) (by kernel_rfl)) ?_
  intro W base args ds gs before hval0 hW hcnd _
  have hval : ∀ (j : Nat) t v, Try.f3.params[j]? = some t → args[j]? = some v → Value.okWide Try.prog W .any base t v := hval0
  have hW' := hW
  obtain ⟨p, q, hA0, hV, rfl, hfz, hnd⟩ := hW
  have hA : DataW.TrodAll enc Try.prog W 0 (fun _ => true) true Try.f3.params.toList args.toList ds p := hA0
  rw [Try.params3] at hA hval
  obtain ⟨v0, vs0, d0, ds0, p0, q0, hargs, rfl, rfl, h0, r0⟩ := trodAll_cons hA
  obtain ⟨v1, vs1, d1, ds1, p1, q1, rfl, rfl, rfl, h1, r1⟩ := trodAll_cons r0
  obtain ⟨rfl, rfl, rfl⟩ := trodAll_nil r1
  obtain rfl : args = #[v0, v1] := by cases args; simp_all
  obtain ⟨rfl, rfl⟩ := trodVars_none hV
  have hlt : ∀ x ∈ p0 ++ p1, x.block < W.heap.size := fun x hx => by simpa using hW'.lt x (by simpa using hx)
  have k0 := h0
  have l0 : ∀ x ∈ p0, x.block < W.heap.size := fun x hx => hlt x (by simp [hx])
  have k1 := h1
  have l1 : ∀ x ∈ p1, x.block < W.heap.size := fun x hx => hlt x (by simp [hx])
  obtain ⟨a0, rfl, rfl, rfl, w0⟩ := open_int Try.underlying3 (hval 0 3 v0 rfl rfl) h0
  obtain ⟨a1, rfl, rfl, rfl, w1⟩ := open_int Try.underlying3 (hval 1 3 v1 rfl rfl) h1
  clear hA0 hval0
  refine (blocksAlone_walk a0 a1 W (bounds_i64 w0) (bounds_i64 w1)).mono fun e W' ⟨he, hg⟩ => ?_
  subst he
  exact ⟨_, rfl, _, _, _, [], _, [], hW', trodAll_mk1 (shut_bool Try.underlying4 _), (trodAll_cons_mk (Below.trod laidOut6 (by kernel_rfl) (of_decide_eq_true (by kernel_rfl)) k0 hg l0) (trodAll_cons_mk (Below.trod laidOut6 (by kernel_rfl) (of_decide_eq_true (by kernel_rfl)) k1 hg l1) trodAll_mk0)), rfl, hg.frame _, fun h => by cases h⟩

theorem over : Rows.blocksAloneRow.holds Try.pinned (OpenSpec.ofChange Rows.blocksAloneSpec) :=
  OpenClaim.holds_of_wide 3 Try.f3 rfl rfl rfl rfl rfl rfl rfl ⟨rfl, rfl, rfl, rfl, rfl⟩ rfl rfl rfl rfl rfl (by kernel_rfl) Try.func3 (by kernel_rfl)
    (of_decide_eq_true (by kernel_rfl)) (by unfold Func.isWrapper; first | (rw [if_pos (by decide +kernel)]; kernel_rfl) | (rw [if_neg (by decide +kernel)]; exact ⟨rfl, rfl⟩))
    (fun os started H enc _ => lifted os started H enc)

theorem proved : Rows.BlocksAloneSaid :=
  over
#print axioms proved
end Go.Proofs.Ytlehjkegacbmnab.blocksAlone
