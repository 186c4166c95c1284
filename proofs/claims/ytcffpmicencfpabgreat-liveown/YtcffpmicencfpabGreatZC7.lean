/-
  The blocks out of the map of places, gone over by rising addresses: they are the document's. No program in sight.
  Contract of blocks.Find: what its list of blocks is, in memory.
  The walk of blocks.Find.
-/

import Derived.Test.YtcffpmicencfpabGreatZC2
import Derived.Test.YtcffpmicencfpabGreatZC6
set_option linter.unusedVariables false
namespace Go.Proofs.YtcffpmicencfpabGreat
namespace Bl
open Pm

def keysN (r : Plcs) : List Nat := r.map Prod.fst
theorem mem_keys {r : Plcs} (h : Rise r) {a : Nat} : a ∈ keysN r ↔ (lookP r a).isSome = true := by
  unfold keysN
  rw [List.mem_map]
  constructor
  · rintro ⟨p, hp, rfl⟩
    rw [look_mem h hp]; rfl
  · intro hs
    cases e : lookP r a with
    | none => rw [e] at hs; cases hs
    | some c => exact ⟨(a, c), mem_look e, rfl⟩
theorem keys_rise {r : Plcs} (h : Rise r) : (keysN r).Pairwise (· < ·) := List.pairwise_map.2 h.up
theorem Reached.keys {T : Tx} {seeds L : List Nat} {r : Plcs} (h : Reached T seeds L r) (a : Nat) : a ∈ keysN r ↔ a ∈ L := (mem_keys h.rise).trans (h.mem a)
theorem Reached.get {T : Tx} {seeds L : List Nat} {r : Plcs} (h : Reached T seeds L r) {a : Nat} (ha : a ∈ keysN r) : Pm.at_ r a = ⟨(T.err a : Int), T.ends a, leader T seeds L a⟩ := at_some (h.at_ a ((h.keys a).1 ha))

/-! ### the first error -/
theorem first_err {T : Tx} {seeds L : List Nat} {r : Plcs} (h : Reached T seeds L r) {k a : Nat} (hk : (keysN r)[k]? = some a) (h0 : ∀ b ∈ (keysN r).take k, T.err b = 0) (he : T.err a ≠ 0) : errL T.err L = T.err a := by
  have ham := List.mem_of_getElem? hk
  have ha : a ∈ L := (h.keys a).1 ham
  rcases errL_holds T.err L with ⟨_, h1⟩ | ⟨h1, h2, h3, h4⟩
  · exact absurd (h1 a ha) he
  · have h5 := h4 a ha he
    have hb : (foldE T.err L (0, 0)).2 = a := by
      by_cases e : (foldE T.err L (0, 0)).2 = a
      · exact e
      · have hlt : (foldE T.err L (0, 0)).2 < a := by omega
        have hm : (foldE T.err L (0, 0)).2 ∈ keysN r := (h.keys _).2 h2
        obtain ⟨j, hj⟩ := List.getElem?_of_mem hm
        have hjk : j < k := by
          by_cases hjk : j < k
          · exact hjk
          · have hp := keys_rise h.rise
            obtain ⟨hkl, hka⟩ := List.getElem?_eq_some_iff.1 hk
            obtain ⟨hjl, hja⟩ := List.getElem?_eq_some_iff.1 hj
            rcases Nat.lt_or_eq_of_le (Nat.le_of_not_lt hjk) with h6 | h6
            · have := List.pairwise_iff_getElem.1 hp k j hkl hjl h6
              omega
            · subst h6; omega
        have hmt : (foldE T.err L (0, 0)).2 ∈ (keysN r).take k := by
          refine List.mem_of_getElem? (i := j) ?_
          rw [List.getElem?_take_of_lt hjk]; exact hj
        exact absurd (by rw [← h3]; exact h0 _ hmt) h1
    show (foldE T.err L (0, 0)).1 = T.err a
    rw [← h3, hb]
theorem no_err {T : Tx} {seeds L : List Nat} {r : Plcs} (h : Reached T seeds L r) (h0 : ∀ b ∈ keysN r, T.err b = 0) : errL T.err L = 0 := by
  rcases errL_holds T.err L with ⟨h1, _⟩ | ⟨h1, h2, h3, _⟩
  · exact h1
  · exact absurd (by rw [← h3]; exact h0 _ ((h.keys _).2 h2)) h1

/-! ### the blocks -/
def stepF (r : Plcs) (s : List (Nat × Nat) × Bool) (a : Nat) : List (Nat × Nat) × Bool := (if ((Pm.at_ r a).leads || !s.2) = true then s.1 ++ [(a, 1)] else bump s.1, !(Pm.at_ r a).ends)
def foldF (r : Plcs) (ks : List Nat) : List (Nat × Nat) × Bool := ks.foldl (stepF r) ([], false)
theorem foldF_snoc (r : Plcs) (ks : List Nat) (a : Nat) : foldF r (ks ++ [a]) = stepF r (foldF r ks) a := by unfold foldF; rw [List.foldl_append]; rfl
def wordsOf (T : Tx) (L : List Nat) (w : Nat) : List Nat := ((List.range w).filter fun v => L.contains (T.adr v)).map T.adr
theorem wordsOf_succ (T : Tx) (L : List Nat) (w : Nat) : wordsOf T L (w + 1) = if L.contains (T.adr w) = true then wordsOf T L w ++ [T.adr w] else wordsOf T L w := by
  unfold wordsOf
  rw [List.range_succ, List.filter_append, List.map_append]
  by_cases h : L.contains (T.adr w) = true
  · rw [if_pos h]
    simp only [List.filter_cons, List.filter_nil, h, if_true, List.map_cons, List.map_nil]
  · have h' : L.contains (T.adr w) = false := by simpa using h
    rw [if_neg h]
    simp only [List.filter_cons, List.filter_nil, h', Bool.false_eq_true, if_false, List.map_nil, List.append_nil]
theorem eq_rise {l m : List Nat} (hl : l.Pairwise (· < ·)) (hm : m.Pairwise (· < ·)) (h : ∀ a, a ∈ l ↔ a ∈ m) : l = m := by
  refine List.Perm.eq_of_pairwise (le := fun a b => a < b) (fun a b _ _ h1 h2 => by omega) hl hm ((List.perm_ext_iff_of_nodup (hl.imp fun h => Nat.ne_of_lt h) (hm.imp fun h => Nat.ne_of_lt h)).2 h)
theorem keys_words {T : Tx} {seeds L : List Nat} {r : Plcs} (hT : Fair T) (h : Reached T seeds L r) (h0 : ∀ a ∈ L, T.err a = 0) : keysN r = wordsOf T L T.n := by
  refine eq_rise (keys_rise h.rise) ?_ fun a => ?_
  · unfold wordsOf
    refine List.pairwise_map.2 ((List.Pairwise.filter _ List.pairwise_lt_range).imp fun {a b} hlt => ?_)
    unfold Tx.adr; omega
  · rw [h.keys]
    unfold wordsOf
    rw [List.mem_map]
    constructor
    · intro ha
      obtain ⟨w, hw, rfl⟩ := hT.word a (h0 a ha)
      exact ⟨w, List.mem_filter.2 ⟨List.mem_range.2 hw, List.contains_iff_mem.2 ha⟩, rfl⟩
    · rintro ⟨w, hw, rfl⟩
      exact List.contains_iff_mem.1 (List.mem_filter.1 hw).2
/-- Behind a gap a leader stands. -/
theorem leader_gap {T : Tx} {seeds L : List Nat} (hT : Fair T) (hc : Closed T seeds L) {w : Nat} (hw : w < T.n) (h0 : w ≠ 0) (hm : T.adr w ∈ L) (hno : T.adr (w - 1) ∉ L) : leader T seeds L (T.adr w) = true := by
  obtain ⟨m, hr⟩ := (hc.mem _).1 hm
  induction m with
  | zero => exact leader_seed hr
  | succ m ih =>
    rcases hr with hr | ⟨b, hbr, he0, ha⟩
    · exact ih hr
    · have hbl : b ∈ L := (hc.mem b).2 ⟨m, hbr⟩
      by_cases he : T.ends b = true
      · exact leader_of hbl he0 he ha
      · have hs := hT.plain b he0 (by simpa using he)
        rw [hs] at ha
        simp at ha
        obtain ⟨v, hv, rfl⟩ := hT.word b he0
        have ht := hT.top
        have e : v = w - 1 := by unfold Tx.adr at ha; omega
        subst e
        exact absurd hbl hno
def openW (T : Tx) (L : List Nat) : Nat → Bool
  | 0 => false
  | w + 1 => if L.contains (T.adr w) = true then !T.ends (T.adr w) else openW T L w
theorem begins_open {T : Tx} {seeds L : List Nat} (hT : Fair T) (hc : Closed T seeds L) {w : Nat} (hw : w < T.n) (hm : T.adr w ∈ L) : (leader T seeds L (T.adr w) || !openW T L w) = begins T seeds L w := by
  cases w with
  | zero => rw [begins_zero]; simp [openW]
  | succ v =>
    unfold begins openW
    rw [Nat.add_sub_cancel]
    by_cases hv : L.contains (T.adr v) = true
    · rw [if_pos hv, hv]
      cases leader T seeds L (T.adr (v + 1)) <;> cases T.ends (T.adr v) <;> simp
    · have := leader_gap hT hc hw (Nat.succ_ne_zero v) hm (fun e => hv (by rw [Nat.add_sub_cancel] at e; exact List.contains_iff_mem.2 e))
      rw [this]
      simp at hv
      simp [hv]
def adrL (T : Tx) (l : List (Nat × Nat)) : List (Nat × Nat) := l.map fun b => (T.adr b.1, b.2)
theorem adrL_bump (T : Tx) (l : List (Nat × Nat)) : adrL T (bump l) = bump (adrL T l) := by
  unfold adrL
  induction l with
  | nil => rfl
  | cons b r ih =>
    cases r with
    | nil => rfl
    | cons c r => rw [bump, List.map_cons, ih]; rfl
theorem fold_words {T : Tx} {seeds L : List Nat} {r : Plcs} (hT : Fair T) (h : Reached T seeds L r) (w : Nat) (hw : w ≤ T.n) : foldF r (wordsOf T L w) = (adrL T (blks T seeds L w), openW T L w) := by
  induction w with
  | zero => rfl
  | succ w ih =>
    have ih := ih (by omega)
    rw [wordsOf_succ, blks, openW]
    by_cases hm : L.contains (T.adr w) = true
    · have hml := List.contains_iff_mem.1 hm
      rw [if_pos hm, if_pos hm, if_pos hm, foldF_snoc, ih]
      unfold stepF
      rw [h.get ((h.keys _).2 hml)]
      show (if (leader T seeds L (T.adr w) || !openW T L w) = true then _ else _, !T.ends (T.adr w)) = _
      rw [begins_open hT h.closed (by omega) hml]
      by_cases hb : begins T seeds L w = true
      · rw [if_pos hb, if_pos hb]
        simp [adrL]
      · rw [if_neg hb, if_neg hb, adrL_bump]
    · rw [if_neg hm, if_neg hm, if_neg hm, ih]
theorem fold_blks {T : Tx} {seeds L : List Nat} {r : Plcs} (hT : Fair T) (h : Reached T seeds L r) (h0 : ∀ a ∈ keysN r, T.err a = 0) : (foldF r (keysN r)).1 = adrL T (blks T seeds L T.n) := by
  rw [keys_words hT h (fun a ha => h0 a ((h.keys a).2 ha)), fold_words hT h T.n (Nat.le_refl _)]
/-- The answer of Find: an error, or the blocks by addresses. -/
def AnsF (T : Tx) (seeds : List Nat) (e : Nat) (l : List (Nat × Nat)) : Prop := ∃ L, Closed T seeds L ∧ e = errL T.err L ∧ l = if e = 0 then adrL T (blks T seeds L T.n) else []
theorem AnsF.same {T : Tx} {seeds seeds' : List Nat} {e e' : Nat} {l l' : List (Nat × Nat)} (h : AnsF T seeds e l) (h' : AnsF T seeds' e' l') (hs : ∀ a, a ∈ seeds ↔ a ∈ seeds') : e = e' ∧ l = l' := by
  obtain ⟨L, hc, rfl, rfl⟩ := h
  obtain ⟨L', hc', rfl, rfl⟩ := h'
  have hm := hc.same hc' hs
  rw [errL_same hm, blks_same hs hm]
  exact ⟨rfl, rfl⟩
theorem bump_ne {l : List (Nat × Nat)} (h : l ≠ []) : bump l ≠ [] := fun e => by
  have hl := bump_len l
  rw [e] at hl
  exact h (List.eq_nil_of_length_eq_zero hl.symm)
theorem stepF_pos (r : Plcs) (s : List (Nat × Nat) × Bool) (a : Nat) (h : s.2 = true → s.1 ≠ []) : (stepF r s a).1 ≠ [] := by
  unfold stepF
  by_cases hc : ((Pm.at_ r a).leads || !s.2) = true
  · simp only [hc, if_true]; simp
  · have h2 : s.2 = true := by
      cases e : s.2 with
      | true => rfl
      | false => rw [e] at hc; simp at hc
    simp only [if_neg hc]
    exact bump_ne (h h2)
theorem fold_pos (r : Plcs) (ks : List Nat) : ∀ s : List (Nat × Nat) × Bool, (s.2 = true → s.1 ≠ []) → ((ks.foldl (stepF r) s).2 = true → (ks.foldl (stepF r) s).1 ≠ []) := by
  induction ks with
  | nil => exact fun s h => h
  | cons a ks ih => exact fun s h => ih _ (fun _ => stepF_pos r s a h)
theorem foldF_pos (r : Plcs) (ks : List Nat) : (foldF r ks).2 = true → (foldF r ks).1 ≠ [] := fold_pos r ks _ (fun h => by cases h)
end Bl
end Go.Proofs.YtcffpmicencfpabGreat
namespace Go.Proofs.YtcffpmicencfpabGreat
open Go.RowKit Go.Lib Go.Sort Go.Maps Ip Bl Pm
set_option linter.unusedSimpArgs false
set_option linter.unusedVariables false

def cellsB (l : List (Nat × Nat)) : List Value := l.flatMap fun b => [.int .u32 (b.1 : Int), .int .i64 (b.2 : Int)]
theorem cellsB_len (l : List (Nat × Nat)) : (cellsB l).length = l.length * 2 := by
  induction l with
  | nil => rfl
  | cons p r ih => unfold cellsB at ih ⊢; rw [List.flatMap_cons, List.length_append, ih]; simp; omega
theorem cellsB_app (l r : List (Nat × Nat)) : cellsB (l ++ r) = cellsB l ++ cellsB r := by simp [cellsB]
theorem cellsB_at (l : List (Nat × Nat)) (i : Nat) (b : Nat × Nat) (h : l[i]? = some b) : (cellsB l)[i * 2]? = some (.int .u32 (b.1 : Int)) ∧ (cellsB l)[i * 2 + 1]? = some (.int .i64 (b.2 : Int)) := by
  induction l generalizing i with
  | nil => simp at h
  | cons p r ih =>
    cases i with
    | zero =>
      simp at h; subst h
      exact ⟨rfl, rfl⟩
    | succ i =>
      have h' : r[i]? = some b := by simpa using h
      obtain ⟨h1, h2⟩ := ih i h'
      have e : cellsB (p :: r) = [.int .u32 (p.1 : Int), .int .i64 (p.2 : Int)] ++ cellsB r := rfl
      rw [e, show (i + 1) * 2 = i * 2 + 2 by omega, show i * 2 + 2 + 1 = (i * 2 + 1) + 2 by omega]
      exact ⟨by rw [List.getElem?_append_right (by simp)]; simpa using h1, by rw [List.getElem?_append_right (by simp)]; simpa using h2⟩
theorem cellsB_set (l : List (Nat × Nat)) (b : Nat × Nat) (c : Nat) : (cellsB (l ++ [b])).set (l.length * 2 + 1) (.int .i64 (c : Int)) = cellsB (l ++ [(b.1, c)]) := by
  rw [cellsB_app, cellsB_app, List.set_append_right _ _ (by rw [cellsB_len]; omega), cellsB_len, show l.length * 2 + 1 - l.length * 2 = 1 by omega]
  rfl
theorem infoB : (Tryz.prog.info? 45).map (fun i => (i.zero, i.size, i.bytes)) = some (some (.agg #[.int .u32 0, .int .i64 0]), 2, 16) := by kernel_rfl
theorem cell_pair_new (w : World) (x y : Value) (t : TypeId) : ∀ j u, [x, y][j]? = some u → (w.alloc (.cells #[x, y] t)).cell? ((⟨w.heap.size, 0, none⟩ : Addr).add j) = some u := by
  intro j u hj
  match j, hj with
  | 0, hj => simp at hj; subst hj; simp [Addr.add]
  | 1, hj => simp at hj; subst hj; simp [Addr.add]
theorem rows_apart {w : World} {b b' e e' s s' n n' : Nat} {v v' : Value} {xs xs' : List Value} (h : w.ownsRow b e s v n xs) (h' : w.ownsRow b' e' s' v' n' xs') (hne : e ≠ e') : v.ownBlock = none ∨ v.ownBlock ≠ v'.ownBlock := by
  rcases h.2 with ⟨rfl, _⟩ | ⟨g, cap, cur, rfl, _, hb, _⟩
  · exact .inl rfl
  · refine .inr fun e1 => ?_
    rcases h'.2 with ⟨rfl, _⟩ | ⟨g', cap', cur', rfl, _, hb', _⟩
    · simp [Value.ownBlock] at e1
    · obtain rfl : g = g' := by simpa [Value.ownBlock] using e1
      rw [hb] at hb'
      injection hb' with h1
      injection h1 with h2 h3
      exact hne h3
theorem map_apart {w : World} {b e s n bm m : Nat} {v : Value} {xs : List Value} {k : TypeId} {R : Value → Option (DataW Unit × List MemPlace)} {D : DataW Unit} (h : w.ownsRow b e s v n xs) (h' : w.ownsMap Tryz.prog k R bm m D) : some bm ≠ v.ownBlock := fun e1 => by
  rcases h.2 with ⟨rfl, _⟩ | ⟨g, cap, cur, rfl, _, hb, _⟩
  · cases e1
  · obtain rfl : bm = g := by simpa [Value.ownBlock] using e1
    obtain ⟨es, clock, hm, _⟩ := h'
    rw [hb] at hm; cases hm
/-- While Find is at work: the map, its keys, and the blocks. -/
structure Fd (w : World) (bm : Nat) (r : Plcs) (vk : Value) (l : List (Nat × Nat)) (vl : Value) (W : World) : Prop where
  own : W.ownsMap Tryz.prog 22 plcElem bm r.length (D r)
  keys : W.ownsRow w.heap.size 22 1 vk r.length ((keysN r).map wordV)
  row : W.ownsRow w.heap.size 45 2 vl l.length (cellsB l)
  low : Below w.heap.size w W
variable {w : World} {bm : Nat} {r : Plcs} {vk vl : Value} {l : List (Nat × Nat)} {W W' : World}
theorem Fd.ext (h : Fd w bm r vk l vl W) (hb : Below W.heap.size W W') : Fd w bm r vk l vl W' :=
  ⟨h.own.kept (grown_of_below hb) (by simp), h.keys.kept (grown_of_below hb) (by cases vk.ownBlock <;> simp), h.row.kept (grown_of_below hb) (by cases vl.ownBlock <;> simp), h.low.trans (hb.mono h.low.size)⟩
theorem Fd.app (h : Fd w bm r vk l vl W) {o : Obj} {vl' : Value} {a : Nat} (hown : W'.ownsRow w.heap.size 45 2 vl' (l.length + 1) (cellsB l ++ [.int .u32 (a : Int), .int .i64 0])) (hg : (W.alloc o).grownBy W' vl.ownBlock) : Fd w bm r vk (l ++ [(a, 0)]) vl' W' := by
  have ha := h.ext ((Below.refl _ W).alloc (Nat.le_refl _) o)
  refine ⟨ha.own.kept hg (map_apart ha.row ha.own), ha.keys.kept hg (rows_apart ha.keys ha.row (by decide)), ?_, ha.low.grown hg (by have := h.low.size; rw [World.size_alloc]; omega) (fun k e => (h.row.lt k e).1)⟩
  rw [cellsB_app]
  simpa [cellsB] using hown
theorem Fd.set {l0 : List (Nat × Nat)} {b : Nat × Nat} {g c n : Nat} (h : Fd w bm r vk (l0 ++ [b]) (.slice (some ⟨g, 0, none⟩) (n + 1) c) W) (hn : l0.length = n) : Fd w bm r vk (l0 ++ [(b.1, b.2 + 1)]) (.slice (some ⟨g, 0, none⟩) (n + 1) c) (W.setCell ⟨g, n * 2 + 1, none⟩ (.int .i64 ((b.2 + 1 : Nat) : Int))) := by
  have hl : (l0 ++ [b]).length = n + 1 := by rw [List.length_append, hn]; rfl
  have hrow := h.row
  rw [hl] at hrow
  obtain ⟨h1, h2⟩ := hrow.stored (n * 2 + 1) (.int .i64 ((b.2 + 1 : Nat) : Int))
  rw [← hn, cellsB_set] at h1
  have hl' : (l0 ++ [(b.1, b.2 + 1)]).length = n + 1 := by rw [List.length_append, hn]; rfl
  refine ⟨h.own.kept h2 (map_apart h.row h.own), h.keys.kept h2 (rows_apart h.keys h.row (by decide)), by rw [hl', ← hn]; exact h1, h.low.grown h2 h.low.size (fun k e => by cases e; exact (h.row.lt _ rfl).1)⟩
theorem Fd.val (h : Fd w bm r vk l vl W) : ∃ p c, vl = .slice p l.length c := own_slice' h.row
/-- A box of another kind, laid since, is written. -/
theorem Fd.box (h : Fd w bm r vk l vl W) {g : Nat} {cs : Array Value} {t : TypeId} {fr : Nat × Nat} (hbx : W.heap[g]? = some (.cells cs t fr)) (h1 : t ≠ 22) (h2 : t ≠ 45) (_h3 : True) (hg : W.grownBy W' (some g)) (hlo : w.heap.size ≤ g) : Fd w bm r vk l vl W' := by
  have rows : ∀ {b e s n : Nat} {v : Value} {xs : List Value}, W.ownsRow b e s v n xs → t ≠ e → v.ownBlock = none ∨ v.ownBlock ≠ some g := fun h hne => by
    rcases h.2 with ⟨e1, _⟩ | ⟨g', cap, cur, e1, _, hb, _⟩
    · exact .inl (by rw [e1]; rfl)
    · refine .inr fun e2 => ?_
      rw [e1] at e2
      obtain rfl : g' = g := by simpa [Value.ownBlock] using e2
      rw [hbx] at hb
      injection hb with hb
      injection hb with _ hb
      exact hne hb
  refine ⟨h.own.kept hg (fun e => ?_), h.keys.kept hg (rows h.keys h1), h.row.kept hg (rows h.row h2), h.low.grown hg h.low.size (fun k e => by cases e; exact hlo)⟩
  injection e with e
  subst e
  obtain ⟨es, clock, hm, _⟩ := h.own
  rw [hbx] at hm; cases hm
theorem row_box {W : World} {b e s n g : Nat} {v : Value} {xs : List Value} {cs : Array Value} {t : TypeId} {fr : Nat × Nat} (h : W.ownsRow b e s v n xs) (hbx : W.heap[g]? = some (.cells cs t fr)) (hne : t ≠ e) : some g ≠ v.ownBlock := fun e2 => by
  rcases h.2 with ⟨e1, _⟩ | ⟨g', cap, cur, e1, _, hb, _⟩
  · rw [e1] at e2; cases e2
  · rw [e1] at e2
    obtain rfl : g = g' := by simpa [Value.ownBlock] using e2
    rw [hbx] at hb
    injection hb with hb
    injection hb with _ hb
    exact hne hb
/-- .. with a place's box. -/
structure Fp (w : World) (bm : Nat) (r : Plcs) (vk : Value) (g : Nat) (p : Plc) (l : List (Nat × Nat)) (vl : Value) (W : World) : Prop where
  fd : Fd w bm r vk l vl W
  pb : W.heap[g]? = some (.cells (plcC p) 92 (0, 0))
theorem Fp.app {g : Nat} {p : Plc} (h : Fp w bm r vk g p l vl W) {o : Obj} {vl' : Value} {a : Nat} (hown : W'.ownsRow w.heap.size 45 2 vl' (l.length + 1) (cellsB l ++ [.int .u32 (a : Int), .int .i64 0])) (hg : (W.alloc o).grownBy W' vl.ownBlock) : Fp w bm r vk g p (l ++ [(a, 0)]) vl' W' := by
  have hlt := (Array.getElem?_eq_some_iff.1 h.pb).1
  exact ⟨h.fd.app hown hg, (hg.block g (by rw [World.size_alloc]; omega) (row_box h.fd.row h.pb (by decide))).trans ((Below.heap_alloc _ _ _ hlt).trans h.pb)⟩
theorem Fp.set {g : Nat} {p : Plc} {l0 : List (Nat × Nat)} {x y gl c n : Nat} (h : Fp w bm r vk g p (l0 ++ [(x, y)]) (.slice (some ⟨gl, 0, none⟩) (n + 1) c) W) (hn : l0.length = n) : Fp w bm r vk g p (l0 ++ [(x, y + 1)]) (.slice (some ⟨gl, 0, none⟩) (n + 1) c) (W.setCell ⟨gl, n * 2 + 1, none⟩ (.int .i64 ((y : Int) + 1))) := by
  have e : ((y + 1 : Nat) : Int) = (y : Int) + 1 := by omega
  have h1 := h.fd.set hn
  rw [e] at h1
  exact ⟨h1, (Below.heap_setCell _ _ _ _ (fun e => row_box h.fd.row h.pb (by decide) (by rw [e]; rfl))).trans h.pb⟩
theorem Fp.cells {g : Nat} {p : Plc} (h : Fp w bm r vk g p l vl W) : W.cell? ⟨g, 0, none⟩ = some (.int .i64 p.e) ∧ W.cell? ⟨g, 1, none⟩ = some (.bool p.ends) ∧ W.cell? ⟨g, 2, none⟩ = some (.bool p.leads) := by
  refine ⟨?_, ?_, ?_⟩ <;> simp [World.cell?, h.pb, plcC]
theorem Fp.last {g : Nat} {p : Plc} {l0 : List (Nat × Nat)} {x y n c : Nat} {p0 : Option Addr} (h : Fp w bm r vk g p (l0 ++ [(x, y)]) (.slice p0 (n + 1) c) W) (hn : l0.length = n) : ∃ gl, p0 = some ⟨gl, 0, none⟩ ∧ W.cell? ⟨gl, n * 2 + 1, none⟩ = some (.int .i64 (y : Int)) ∧ W.frozen? ⟨gl, n * 2 + 1, none⟩ = false := by
  have hl : (l0 ++ [(x, y)]).length = n + 1 := by rw [List.length_append, hn]; rfl
  have hrow := h.fd.row
  rw [hl] at hrow
  obtain ⟨gl, rfl⟩ := own_some hrow (by omega)
  refine ⟨gl, rfl, ?_, hrow.frozenAt _⟩
  rw [hrow.cellAt _ (by omega)]
  exact (cellsB_at _ n (x, y) (by rw [List.getElem?_append_right (by omega), hn]; simp)).2
/-- The counts stay small. -/
theorem bump_le {l : List (Nat × Nat)} {n : Nat} (h : ∀ b ∈ l, b.2 ≤ n) : ∀ b ∈ bump l, b.2 ≤ n + 1 := by
  induction l with
  | nil => intro b hb; simp [bump] at hb
  | cons a l ih =>
    cases l with
    | nil =>
      intro b hb
      simp [bump] at hb
      subst hb
      have := h a (by simp)
      show a.2 + 1 ≤ n + 1
      omega
    | cons c l =>
      intro b hb
      rw [bump] at hb
      rcases List.mem_cons.1 hb with rfl | hb
      · have := h b (by simp); omega
      · exact ih (fun x hx => h x (List.mem_cons_of_mem _ hx)) b hb
theorem fold_le (r : Plcs) (ks : List Nat) : ∀ (s : List (Nat × Nat) × Bool) (n : Nat), (∀ b ∈ s.1, b.2 ≤ n) → ∀ b ∈ (ks.foldl (stepF r) s).1, b.2 ≤ n + ks.length := by
  induction ks with
  | nil => exact fun s n h b hb => h b hb
  | cons a ks ih =>
    intro s n h b hb
    have := ih (stepF r s a) (n + 1) (fun c hc => by
      unfold stepF at hc
      by_cases hcc : ((Pm.at_ r a).leads || !s.2) = true
      · simp only [hcc, if_true] at hc
        rcases List.mem_append.1 hc with hc | hc
        · have := h c hc; omega
        · simp at hc; subst hc; simp
      · simp only [if_neg hcc] at hc
        exact bump_le h c hc) b hb
    rw [List.length_cons]; omega
theorem foldF_le (r : Plcs) (ks : List Nat) : ∀ b ∈ (foldF r ks).1, b.2 ≤ ks.length := fun b hb => by
  have := fold_le r ks ([], false) 0 (fun b hb => by simp at hb) b hb
  omega
theorem fold_len (r : Plcs) (ks : List Nat) : ∀ (s : List (Nat × Nat) × Bool), (ks.foldl (stepF r) s).1.length ≤ s.1.length + ks.length := by
  induction ks with
  | nil => exact fun s => Nat.le_refl _
  | cons a ks ih =>
    intro s
    have := ih (stepF r s a)
    have h2 : (stepF r s a).1.length ≤ s.1.length + 1 := by
      unfold stepF
      by_cases hcc : ((Pm.at_ r a).leads || !s.2) = true
      · simp only [hcc, if_true]; simp
      · simp only [if_neg hcc]; rw [bump_len]; omega
    rw [List.length_cons]
    show ((ks.foldl (stepF r) (stepF r s a)).1).length ≤ _
    omega
theorem foldF_len (r : Plcs) (ks : List Nat) : (foldF r ks).1.length ≤ ks.length := by
  have := fold_len r ks ([], false)
  rw [List.length_nil, Nat.zero_add] at this
  exact this
theorem keysI_N (r : Plcs) : (keysI r).map U = (keysN r).map wordV := by unfold keysI keysN; rw [List.map_map, List.map_map]; rfl
end Go.Proofs.YtcffpmicencfpabGreat
namespace Go.Proofs.YtcffpmicencfpabGreat
open Go.RowKit Go.Lib Go.Sort Go.Maps Ip Bl Pm
set_option linter.unusedSimpArgs false
set_option linter.unusedVariables false

theorem keys_at (mb : Option Nat) (w : World) : Calls Tryz.prog 44 #[.map mb] w fun e w' => e = .returned (seqV w.heap.size) ∧ w' = w.alloc (.cells #[.map mb] 85) := keysOf_u mb w
set_option maxHeartbeats 8000000 in
set_option maxRecDepth 100000 in
theorem finds_any (i : Img) (v ve : Value) (es : List Nat) (hes : ∀ a ∈ es, a < 4294967296) (hel : es.length ≤ 1000) (hi : i.ok) (w : World) (hS : SlW w v i.words) (hE : SlW w ve es) :
    Calls Tryz.prog 25 #[imgV i v, ve] w fun e W' => ∃ (er : Nat) (l : List (Nat × Nat)), AnsF (txI i) (seedsI i es) er l ∧ ∃ u : Value, e = .returned (.tuple #[u, .int .i64 (er : Int)]) ∧ W'.ownsRow w.heap.size 45 2 u l.length (cellsB l) ∧ Below w.heap.size w W' := by
  obtain ⟨i0, hii, hz0, hz1, hz2⟩ := info_parts infoB
  obtain ⟨p0, q0, rfl, _⟩ := hS.len
  obtain ⟨pe, qe, rfl, _⟩ := hE.len
  have b0 : Below w.heap.size w (w.alloc (.cells (imgC i (.slice p0 i.words.length q0)) 26)) := (Below.refl _ w).alloc (Nat.le_refl _) _
  have hRE := reached_any i _ _ es hes hel hi _ (hS.below b0) (hE.below b0)
  have HRE := hideE hRE
  have HF := hideE (txI_fair hi)
  have hib := heap_alloc_new w (.cells (imgC i (.slice p0 i.words.length q0)) 26)
  have HB0 := hideE b0
  clear hRE hS hE hes hel b0
  simp only [imgV] at HRE ⊢
  go_enter Tryz.func25, Tryz.ntmps25
  go_upto_region 4 with (first
    | (refine wpList_load_row rfl 26 _ rfl w.heap.size rfl _ _ _ _ hib Tryz.underlying26 rfl (by kernel_rfl) ?_)
    | (go_at_call 42; refine HRE.out.mono ?_; rintro e wa ⟨bm, r, L, rfl, hR, hown, hlo, hba⟩))
  have hba1 := HB0.out.trans (hba.mono (by simp))
  have HR := hideE hR
  have hrise := hR.rise
  clear hR hib HRE hba HB0
  have hbm : w.heap.size ≤ bm := by rw [World.size_alloc] at hlo; omega
  have b1 := (Below.refl wa.heap.size wa).alloc (Nat.le_refl _) (.cells #[.map (some bm)] 85)
  have hsr := sorted_u wa.heap.size bm r hrise (wa.alloc (.cells #[.map (some bm)] 85)) (by simp) (by rw [World.cell?_alloc_at _ _ _ _ rfl]; rfl) (hown.alloc _)
  have HSR := hideE hsr
  have hsz := hba1.size
  clear hsr
  go_upto_region 5 with (first
    | (go_at_call 44; refine (keys_at (some bm) wa).mono ?_; rintro e wb ⟨rfl, rfl⟩)
    | (go_at_call 43; refine HSR.out.mono ?_; rintro e wc ⟨vk, rfl, hks, hbk⟩; obtain ⟨pk, ck, rfl⟩ := own_slice' hks))
  have hbk1 : Below wa.heap.size wa wc := b1.trans (hbk.mono (by simp))
  have hks' : wc.ownsRow w.heap.size 22 1 (.slice pk r.length ck) r.length ((keysN r).map wordV) := by
    rw [keysI_N] at hks
    refine ⟨hks.1, ?_⟩
    rcases hks.2 with h0 | ⟨g, cap, cur, h1, h2, h3⟩
    · exact .inl h0
    · exact .inr ⟨g, cap, cur, h1, by simp at h2; omega, h3⟩
  have hfd : Fd w bm r (.slice pk r.length ck) [] (.slice none 0 0) wc := ⟨hown.kept (grown_of_below hbk1) (by simp), hks', World.ownsRow_nil _ _ _ _, hba1.trans (hbk1.mono hsz)⟩
  clear hks hks' hbk hbk1 b1 HSR hown hba1
  refine gen_world (Fd w bm r (.slice pk r.length ck) [] (.slice none 0 0)) hfd ?_
  clear hfd
  intro wd h1
  obtain ⟨n, hn⟩ : ∃ n, r.length = n := ⟨_, rfl⟩
  have hkl : (keysN r).length = n := by rw [← hn]; simp [keysN]
  have hnl : n ≤ 4294967296 := by rw [← hn]; exact hrise.length
  have HKL := hideE hkl
  have HN := hideE hn
  rw [hn] at h1 ⊢
  clear hkl hn
  go_loopg [7, 8, 19] n (fun q s7 s8 j W => ∃ (k : Nat) (vl : Value), k + q = n ∧ j = .int .i64 (k : Int) ∧ s7 = vl ∧ s8 = .bool (foldF r ((keysN r).take k)).2 ∧ Fd w bm r (.slice pk n ck) (foldF r ((keysN r).take k)).1 vl W ∧ ∀ b ∈ (keysN r).take k, (txI i).err b = 0)
  case atStart => exact ⟨0, _, by omega, rfl, rfl, rfl, h1, fun b hb => by simp at hb⟩
  case round =>
    clear h1
    obtain ⟨k, vl, hkq, rfl, rfl, rfl, h2, h0⟩ := hrel
    have H0 := hideE h0
    clear h0
    obtain ⟨lk, hlk⟩ : ∃ lk, (foldF r ((keysN r).take k)).1 = lk := ⟨_, rfl⟩
    obtain ⟨op, hop⟩ : ∃ op, (foldF r ((keysN r).take k)).2 = op := ⟨_, rfl⟩
    rw [hlk] at h2
    rw [hop]
    have hcnt : ∀ b ∈ lk, b.2 ≤ k := fun b hb => by
      have := foldF_le r ((keysN r).take k) b (by rw [hlk]; exact hb)
      rw [List.length_take] at this; omega
    have hnem : op = true → lk ≠ [] := fun e => by rw [← hlk]; exact foldF_pos r _ (by rw [hop]; exact e)
    have HCNT := hideE hcnt
    have HNEM := hideE hnem
    have HLK := hideE hlk
    have HOP := hideE hop
    clear hcnt hnem hlk hop
    obtain ⟨pv, cv, rfl⟩ := h2.val
    cases gk with
    | zero =>
      obtain rfl : k = n := by omega
      have hk : ¬ ((k : Int) < (k : Int)) := by omega
      have HAns : Hid (AnsF (txI i) (seedsI i es) 0 lk) := by
        have ht : (keysN r).take k = keysN r := List.take_of_length_le (by rw [HKL.out]; exact Nat.le_refl _)
        have h0 : ∀ a ∈ keysN r, (txI i).err a = 0 := by rw [← ht]; exact H0.out
        refine ⟨L, HR.out.closed, (no_err HR.out h0).symm, ?_⟩
        rw [if_pos rfl, ← fold_blks HF.out HR.out h0, ← HLK.out, ht]
      have hrow := h2.row
      have hlow := h2.low
      clear h2
      go_wp2_with fail
      go_ret2
      exact ⟨0, lk, HAns.out, _, rfl, hrow, hlow⟩
    | succ q =>
      have hk : ((k : Int) < (n : Int)) := by omega
      have hk0 : (0 : Int) ≤ (k : Int) := by omega
      have hwk : IntKind.i64.wrap ((k : Int) + 1) = (k : Int) + 1 := wrE (by omega) (by omega)
      obtain ⟨a, ha⟩ : ∃ a, (keysN r)[k]? = some a := ⟨(keysN r)[k]'(by rw [HKL.out]; omega), List.getElem?_eq_getElem (by rw [HKL.out]; omega)⟩
      have ham : a ∈ keysN r := List.mem_of_getElem? ha
      have hal : a < 4294967296 := by
        obtain ⟨p, hp, rfl⟩ := List.mem_map.1 ham
        exact hrise.ok p hp
      have hrow := h2.keys
      rw [HN.out] at hrow
      obtain ⟨gk, rfl⟩ := own_some hrow (by omega)
      have hcell : wr.cell? ⟨gk, k, none⟩ = some (.int .u32 (a : Int)) := by
        rw [hrow.cellAt k (by omega), List.getElem?_map, ha]; rfl
      have htake : (keysN r).take (k + 1) = (keysN r).take k ++ [a] := by rw [List.take_add_one, ha]; rfl
      have HTK := hideE htake
      have hoo := h2.own
      obtain ⟨p, hp⟩ : ∃ p, Pm.at_ r a = p := ⟨_, rfl⟩
      have HP := hideE hp
      have hpe : p.e = ((txI i).err a : Int) := by rw [← hp, HR.out.get ham]
      have HPE := hideE hpe
      have HA := hideE ha
      have HAM := hideE ham
      have H2 := hideE h2
      clear hrow htake ha ham h2 hpe
      obtain ⟨pe', pn, pl⟩ := p
      go_upto_region 8 with (first
        | (at_lookup; refine wpList_lookup_plc1 _ rfl _ _ rfl bm r r.length a hal rfl hoo rfl ?_; rw [hp])
        | (refine wpList_store_row rfl 92 _ _ rfl wr.heap.size _ rfl rfl _ _ (heap_alloc_new wr _) (by kernel_rfl) rfl (by kernel_rfl) ?_))
      have hgp := heap_alloc_new wr (.cells #[.int .i64 0, .bool false, .bool false] 92)
      have hfx := (H2.out.ext ((Below.refl _ wr).alloc (Nat.le_refl _) (.cells #[.int .i64 0, .bool false, .bool false] 92))).box hgp (by decide) (by decide) (by decide) (grown_setRow _ wr.heap.size (plcC ⟨pe', pn, pl⟩))
      refine gen_world (Fp w bm r (.slice (some ⟨gk, 0, none⟩) n ck) wr.heap.size ⟨pe', pn, pl⟩ lk (.slice pv lk.length cv)) ⟨hfx (by have := H2.out.low.size; omega), setRow_heap _ _ _ _ _ _ hgp⟩ ?_
      clear hgp hfx hoo hcell H2 hp
      generalize wr.heap.size = gp
      intro we h3
      obtain ⟨d0, d1, d2⟩ := h3.cells
      have HPE2 : Hid (pe' = ((txI i).err a : Int)) := HPE.out
      by_cases he : pe' = 0
      · subst he
        have HLEN : Hid (lk.length ≤ n) := by
          show lk.length ≤ n
          rw [← HLK.out]
          exact Nat.le_trans (foldF_len r _) (by rw [List.length_take]; omega)
        have hnl' := hnl
        rcases (show (pl = true ∧ op = true) ∨ (pl = true ∧ op = false) ∨ (pl = false ∧ op = false) ∨ (pl = false ∧ op = true) by cases pl <;> cases op <;> simp) with ⟨rfl, rfl⟩ | ⟨rfl, rfl⟩ | ⟨rfl, rfl⟩ | ⟨rfl, rfl⟩
        · have hbr := h3.fd.row
          have hsz := h3.fd.low.size
          have hll : lk.length ≤ n := HLEN.out
          have H3 := hideE h3
          clear h3
          go_upto_region 12 with (at_builtin; refine wpList_append_own _ rfl _ _ 27 rfl w.heap.size 45 i0 (.agg #[.int .u32 0, .int .i64 0]) 2 16 Tryz.underlying27 hii hz0 hz1 hz2 rfl (by decide) _ _ _ rfl (hbr.alloc _) ⟨_, 0, none⟩ 1 1 [.int .u32 (a : Int), .int .i64 0] rfl rfl (cell_pair_new _ _ _ _) (by simp [Value.oneCell']) (by unfold maxLen; omega) (by omega) (by simp; omega) ?_; intro vl' w3 hown' hgrow _; obtain ⟨pv', cv', rfl⟩ := own_slice' hown')
          refine gen_world (Fp w bm r (.slice (some ⟨gk, 0, none⟩) n ck) gp ⟨0, pn, true⟩ (lk ++ [(a, 0)]) (.slice pv' (lk.length + 1) cv')) (H3.out.app hown' hgrow) ?_
          clear hown' hgrow H3 hbr d0 d1 d2
          intro wb h4
          obtain ⟨l0, xx, yy, nn, hl0, hxx, hyy, hnn⟩ : ∃ (l0 : List (Nat × Nat)) (xx yy nn : Nat), l0 = lk ∧ xx = a ∧ yy = 0 ∧ nn = lk.length := ⟨_, _, _, _, rfl, rfl, rfl, rfl⟩
          have hn0 : l0.length = nn := by rw [hl0, hnn]
          have HL1 : Hid ((if ((true : Bool) || !(true : Bool)) = true then lk ++ [(a, 1)] else bump lk) = l0 ++ [(xx, yy + 1)]) := by rw [hl0, hxx, hyy]; rfl
          have h4' : Fp w bm r (.slice (some ⟨gk, 0, none⟩) n ck) gp ⟨0, pn, true⟩ (l0 ++ [(xx, yy)]) (.slice pv' (nn + 1) cv') wb := by rw [hl0, hxx, hyy, hnn]; exact h4
          rw [← hnn] at hll ⊢
          have hyl : yy ≤ n := by omega
          clear h4
          have h4 := h4'
          clear h4' hl0 hxx hyy hnn
          obtain ⟨gl, rfl, e1, e2⟩ := h4.last hn0
          have H4 := hideE (h4.set hn0)
          have f1 := h4.cells.2.1
          have HF1 := hideE (h4.set hn0).cells.2.1
          clear h4
          have hsub : IntKind.i64.wrap (((nn : Nat) : Int) + 1 - 1) = (nn : Int) := by rw [show ((nn : Nat) : Int) + 1 - 1 = (nn : Int) by omega]; exact wrE (by omega) (by omega)
          have hnn0 : (0 : Int) ≤ (nn : Int) := by omega
          have hnn1 : (nn : Int) < (nn : Int) + 1 := by omega
          have hwy : IntKind.i64.wrap ((yy : Int) + 1) = (yy : Int) + 1 := wrE (by omega) (by omega)
          go_upto_region 13 with fail
          refine gen_world (Fp w bm r (.slice (some ⟨gk, 0, none⟩) n ck) gp ⟨0, pn, true⟩ (l0 ++ [(xx, yy + 1)]) (.slice (some ⟨gl, 0, none⟩) (nn + 1) cv')) H4.out ?_
          clear H4 f1 HF1 e1 e2
          intro wf h5
          obtain ⟨f0, f1, f2⟩ := h5.cells
          go_wp2_with fail
          go_roundg q
          case measure => omega
          case rel =>
            refine ⟨k + 1, _, by omega, by simp, rfl, ?_, ?_, ?_⟩
            · rw [HTK.out, foldF_snoc]; unfold stepF; rw [HP.out]
            · rw [HTK.out, foldF_snoc]; unfold stepF; rw [HP.out, HLK.out, HOP.out]
              have := h5.fd
              rw [← HL1.out] at this
              exact this
            · rw [HTK.out]
              intro b hb
              rcases List.mem_append.1 hb with hb | hb
              · exact H0.out b hb
              · simp at hb; subst hb
                have := HPE2.out
                omega
        · have hbr := h3.fd.row
          have hsz := h3.fd.low.size
          have hll : lk.length ≤ n := HLEN.out
          have H3 := hideE h3
          clear h3
          go_upto_region 12 with (at_builtin; refine wpList_append_own _ rfl _ _ 27 rfl w.heap.size 45 i0 (.agg #[.int .u32 0, .int .i64 0]) 2 16 Tryz.underlying27 hii hz0 hz1 hz2 rfl (by decide) _ _ _ rfl (hbr.alloc _) ⟨_, 0, none⟩ 1 1 [.int .u32 (a : Int), .int .i64 0] rfl rfl (cell_pair_new _ _ _ _) (by simp [Value.oneCell']) (by unfold maxLen; omega) (by omega) (by simp; omega) ?_; intro vl' w3 hown' hgrow _; obtain ⟨pv', cv', rfl⟩ := own_slice' hown')
          refine gen_world (Fp w bm r (.slice (some ⟨gk, 0, none⟩) n ck) gp ⟨0, pn, true⟩ (lk ++ [(a, 0)]) (.slice pv' (lk.length + 1) cv')) (H3.out.app hown' hgrow) ?_
          clear hown' hgrow H3 hbr d0 d1 d2
          intro wb h4
          obtain ⟨l0, xx, yy, nn, hl0, hxx, hyy, hnn⟩ : ∃ (l0 : List (Nat × Nat)) (xx yy nn : Nat), l0 = lk ∧ xx = a ∧ yy = 0 ∧ nn = lk.length := ⟨_, _, _, _, rfl, rfl, rfl, rfl⟩
          have hn0 : l0.length = nn := by rw [hl0, hnn]
          have HL1 : Hid ((if ((true : Bool) || !(false : Bool)) = true then lk ++ [(a, 1)] else bump lk) = l0 ++ [(xx, yy + 1)]) := by rw [hl0, hxx, hyy]; rfl
          have h4' : Fp w bm r (.slice (some ⟨gk, 0, none⟩) n ck) gp ⟨0, pn, true⟩ (l0 ++ [(xx, yy)]) (.slice pv' (nn + 1) cv') wb := by rw [hl0, hxx, hyy, hnn]; exact h4
          rw [← hnn] at hll ⊢
          have hyl : yy ≤ n := by omega
          clear h4
          have h4 := h4'
          clear h4' hl0 hxx hyy hnn
          obtain ⟨gl, rfl, e1, e2⟩ := h4.last hn0
          have H4 := hideE (h4.set hn0)
          have f1 := h4.cells.2.1
          have HF1 := hideE (h4.set hn0).cells.2.1
          clear h4
          have hsub : IntKind.i64.wrap (((nn : Nat) : Int) + 1 - 1) = (nn : Int) := by rw [show ((nn : Nat) : Int) + 1 - 1 = (nn : Int) by omega]; exact wrE (by omega) (by omega)
          have hnn0 : (0 : Int) ≤ (nn : Int) := by omega
          have hnn1 : (nn : Int) < (nn : Int) + 1 := by omega
          have hwy : IntKind.i64.wrap ((yy : Int) + 1) = (yy : Int) + 1 := wrE (by omega) (by omega)
          go_upto_region 13 with fail
          refine gen_world (Fp w bm r (.slice (some ⟨gk, 0, none⟩) n ck) gp ⟨0, pn, true⟩ (l0 ++ [(xx, yy + 1)]) (.slice (some ⟨gl, 0, none⟩) (nn + 1) cv')) H4.out ?_
          clear H4 f1 HF1 e1 e2
          intro wf h5
          obtain ⟨f0, f1, f2⟩ := h5.cells
          go_wp2_with fail
          go_roundg q
          case measure => omega
          case rel =>
            refine ⟨k + 1, _, by omega, by simp, rfl, ?_, ?_, ?_⟩
            · rw [HTK.out, foldF_snoc]; unfold stepF; rw [HP.out]
            · rw [HTK.out, foldF_snoc]; unfold stepF; rw [HP.out, HLK.out, HOP.out]
              have := h5.fd
              rw [← HL1.out] at this
              exact this
            · rw [HTK.out]
              intro b hb
              rcases List.mem_append.1 hb with hb | hb
              · exact H0.out b hb
              · simp at hb; subst hb
                have := HPE2.out
                omega
        · have hbr := h3.fd.row
          have hsz := h3.fd.low.size
          have hll : lk.length ≤ n := HLEN.out
          have H3 := hideE h3
          clear h3
          go_upto_region 12 with (at_builtin; refine wpList_append_own _ rfl _ _ 27 rfl w.heap.size 45 i0 (.agg #[.int .u32 0, .int .i64 0]) 2 16 Tryz.underlying27 hii hz0 hz1 hz2 rfl (by decide) _ _ _ rfl (hbr.alloc _) ⟨_, 0, none⟩ 1 1 [.int .u32 (a : Int), .int .i64 0] rfl rfl (cell_pair_new _ _ _ _) (by simp [Value.oneCell']) (by unfold maxLen; omega) (by omega) (by simp; omega) ?_; intro vl' w3 hown' hgrow _; obtain ⟨pv', cv', rfl⟩ := own_slice' hown')
          refine gen_world (Fp w bm r (.slice (some ⟨gk, 0, none⟩) n ck) gp ⟨0, pn, false⟩ (lk ++ [(a, 0)]) (.slice pv' (lk.length + 1) cv')) (H3.out.app hown' hgrow) ?_
          clear hown' hgrow H3 hbr d0 d1 d2
          intro wb h4
          obtain ⟨l0, xx, yy, nn, hl0, hxx, hyy, hnn⟩ : ∃ (l0 : List (Nat × Nat)) (xx yy nn : Nat), l0 = lk ∧ xx = a ∧ yy = 0 ∧ nn = lk.length := ⟨_, _, _, _, rfl, rfl, rfl, rfl⟩
          have hn0 : l0.length = nn := by rw [hl0, hnn]
          have HL1 : Hid ((if ((false : Bool) || !(false : Bool)) = true then lk ++ [(a, 1)] else bump lk) = l0 ++ [(xx, yy + 1)]) := by rw [hl0, hxx, hyy]; rfl
          have h4' : Fp w bm r (.slice (some ⟨gk, 0, none⟩) n ck) gp ⟨0, pn, false⟩ (l0 ++ [(xx, yy)]) (.slice pv' (nn + 1) cv') wb := by rw [hl0, hxx, hyy, hnn]; exact h4
          rw [← hnn] at hll ⊢
          have hyl : yy ≤ n := by omega
          clear h4
          have h4 := h4'
          clear h4' hl0 hxx hyy hnn
          obtain ⟨gl, rfl, e1, e2⟩ := h4.last hn0
          have H4 := hideE (h4.set hn0)
          have f1 := h4.cells.2.1
          have HF1 := hideE (h4.set hn0).cells.2.1
          clear h4
          have hsub : IntKind.i64.wrap (((nn : Nat) : Int) + 1 - 1) = (nn : Int) := by rw [show ((nn : Nat) : Int) + 1 - 1 = (nn : Int) by omega]; exact wrE (by omega) (by omega)
          have hnn0 : (0 : Int) ≤ (nn : Int) := by omega
          have hnn1 : (nn : Int) < (nn : Int) + 1 := by omega
          have hwy : IntKind.i64.wrap ((yy : Int) + 1) = (yy : Int) + 1 := wrE (by omega) (by omega)
          go_upto_region 13 with fail
          refine gen_world (Fp w bm r (.slice (some ⟨gk, 0, none⟩) n ck) gp ⟨0, pn, false⟩ (l0 ++ [(xx, yy + 1)]) (.slice (some ⟨gl, 0, none⟩) (nn + 1) cv')) H4.out ?_
          clear H4 f1 HF1 e1 e2
          intro wf h5
          obtain ⟨f0, f1, f2⟩ := h5.cells
          go_wp2_with fail
          go_roundg q
          case measure => omega
          case rel =>
            refine ⟨k + 1, _, by omega, by simp, rfl, ?_, ?_, ?_⟩
            · rw [HTK.out, foldF_snoc]; unfold stepF; rw [HP.out]
            · rw [HTK.out, foldF_snoc]; unfold stepF; rw [HP.out, HLK.out, HOP.out]
              have := h5.fd
              rw [← HL1.out] at this
              exact this
            · rw [HTK.out]
              intro b hb
              rcases List.mem_append.1 hb with hb | hb
              · exact H0.out b hb
              · simp at hb; subst hb
                have := HPE2.out
                omega
        · have hll : lk.length ≤ n := HLEN.out
          obtain ⟨l0, b0, hl0⟩ : ∃ l0 b0, lk = l0 ++ [b0] := ⟨_, _, (List.dropLast_concat_getLast (HNEM.out rfl)).symm⟩
          obtain ⟨xx, yy⟩ := b0
          obtain ⟨nn, hn0⟩ : ∃ nn, l0.length = nn := ⟨_, rfl⟩
          have hln : lk.length = nn + 1 := by rw [hl0, List.length_append, hn0]; rfl
          have hyl : yy ≤ n := by
            have := HCNT.out (xx, yy) (by rw [hl0]; simp)
            have : yy ≤ k := this
            omega
          have HL1 : Hid ((if ((false : Bool) || !(true : Bool)) = true then lk ++ [(a, 1)] else bump lk) = l0 ++ [(xx, yy + 1)]) := by
            show bump lk = _
            rw [hl0, bump_snoc]
          rw [hln] at hll
          rw [hln, hl0] at h3
          rw [hln]
          clear hl0 hln
          have h4 := h3
          clear h3
          go_upto_region 12 with fail
          obtain ⟨gl, rfl, e1, e2⟩ := h4.last hn0
          have H4 := hideE (h4.set hn0)
          have f1 := h4.cells.2.1
          have HF1 := hideE (h4.set hn0).cells.2.1
          clear h4
          have hsub : IntKind.i64.wrap (((nn : Nat) : Int) + 1 - 1) = (nn : Int) := by rw [show ((nn : Nat) : Int) + 1 - 1 = (nn : Int) by omega]; exact wrE (by omega) (by omega)
          have hnn0 : (0 : Int) ≤ (nn : Int) := by omega
          have hnn1 : (nn : Int) < (nn : Int) + 1 := by omega
          have hwy : IntKind.i64.wrap ((yy : Int) + 1) = (yy : Int) + 1 := wrE (by omega) (by omega)
          go_upto_region 13 with fail
          refine gen_world (Fp w bm r (.slice (some ⟨gk, 0, none⟩) n ck) gp ⟨0, pn, false⟩ (l0 ++ [(xx, yy + 1)]) (.slice (some ⟨gl, 0, none⟩) (nn + 1) cv)) H4.out ?_
          clear H4 f1 HF1 e1 e2
          intro wf h5
          obtain ⟨f0, f1, f2⟩ := h5.cells
          go_wp2_with fail
          go_roundg q
          case measure => omega
          case rel =>
            refine ⟨k + 1, _, by omega, by simp, rfl, ?_, ?_, ?_⟩
            · rw [HTK.out, foldF_snoc]; unfold stepF; rw [HP.out]
            · rw [HTK.out, foldF_snoc]; unfold stepF; rw [HP.out, HLK.out, HOP.out]
              have := h5.fd
              rw [← HL1.out] at this
              exact this
            · rw [HTK.out]
              intro b hb
              rcases List.mem_append.1 hb with hb | hb
              · exact H0.out b hb
              · simp at hb; subst hb
                have := HPE2.out
                omega
      · have hne : (pe' != 0) = true := bne_iff_ne.2 he
        have HAns : Hid (AnsF (txI i) (seedsI i es) ((txI i).err a) []) := by
          have h1 : (txI i).err a ≠ 0 := fun e => he (by rw [HPE2.out, e]; rfl)
          have h2 := first_err HR.out HA.out H0.out h1
          exact ⟨L, HR.out.closed, h2.symm, by rw [if_neg h1]⟩
        have hlow := h3.fd.low
        clear h3 he
        go_wp2_with fail
        go_quiet (fail)
        go_wp2_with fail
        go_ret2
        exact ⟨_, [], HAns.out, _, by rw [HPE2.out]; rfl, World.ownsRow_nil _ _ _ _, hlow.trans (drew_low _ _ _)⟩
end Go.Proofs.YtcffpmicencfpabGreat
