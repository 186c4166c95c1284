/-
  Blocks of a text, as plain lists: what is reached, the least error, where blocks begin. No program in sight.
  Blocks of a text, as plain lists: each place that begins a block, what stands behind a block, more entries. No program in sight.
  Where a program may go on behind an instruction, as plain functions on numbers. No program in sight.
  A text of words, as the blocks see it: of each address its error, what stands behind it, whether a block ends there. No program in sight.
  The map of places, as a list by rising addresses; what the map's datum makes of it. No program in sight.
  The list of what waits to be looked at, and the map of places: what holds while it is worked off. No program in sight.
-/
import Derived.WalkKit
import Derived.Maps.OwnSet
import Derived.Maps.RangeWalk
import Derived.WalkArith
import Derived.Test.YtcffpmicencfpabGreatZC1
import Derived.Test.YtcffpmicencfpabGreatZb
set_option linter.unusedVariables false
namespace Go.Proofs.YtcffpmicencfpabGreat
namespace Bl

/-- A text, as far as blocks go: of each address its error (0: none), what stands behind it, whether a block ends there. -/
structure Tx where
  base : Nat
  n : Nat
  err : Nat → Nat
  suc : Nat → List Nat
  ends : Nat → Bool
def Tx.adr (T : Tx) (w : Nat) : Nat := T.base + 4 * w

/-! ### what is reached -/
def RN (T : Tx) (seeds : List Nat) : Nat → Nat → Prop
  | 0, a => a ∈ seeds
  | m + 1, a => RN T seeds m a ∨ ∃ b, RN T seeds m b ∧ T.err b = 0 ∧ a ∈ T.suc b
def Reach (T : Tx) (seeds : List Nat) (a : Nat) : Prop := ∃ m, RN T seeds m a
theorem reach_seed {T : Tx} {seeds : List Nat} {a : Nat} (h : a ∈ seeds) : Reach T seeds a := ⟨0, h⟩
theorem reach_step {T : Tx} {seeds : List Nat} {a b : Nat} (h : Reach T seeds b) (he : T.err b = 0) (ha : a ∈ T.suc b) : Reach T seeds a := by
  obtain ⟨m, hm⟩ := h
  exact ⟨m + 1, .inr ⟨b, hm, he, ha⟩⟩
theorem reach_least {T : Tx} {seeds : List Nat} {P : Nat → Prop} (h0 : ∀ a ∈ seeds, P a) (h1 : ∀ b, P b → T.err b = 0 → ∀ a ∈ T.suc b, P a) {a : Nat} (h : Reach T seeds a) : P a := by
  obtain ⟨m, hm⟩ := h
  induction m generalizing a with
  | zero => exact h0 a hm
  | succ m ih =>
    rcases hm with h | ⟨b, hb, he, ha⟩
    · exact ih h
    · exact h1 b (ih hb) he a ha
/-- A list that holds the entries, what stands behind each of its own, and no more. -/
structure Closed (T : Tx) (seeds L : List Nat) : Prop where
  seed : ∀ a ∈ seeds, a ∈ L
  step : ∀ b ∈ L, T.err b = 0 → ∀ a ∈ T.suc b, a ∈ L
  only : ∀ a ∈ L, Reach T seeds a
theorem Closed.mem {T : Tx} {seeds L : List Nat} (h : Closed T seeds L) (a : Nat) : a ∈ L ↔ Reach T seeds a :=
  ⟨h.only a, fun hr => reach_least (P := fun a => a ∈ L) h.seed h.step hr⟩
theorem Closed.same {T : Tx} {seeds seeds' L L' : List Nat} (h : Closed T seeds L) (h' : Closed T seeds' L') (hs : ∀ a, a ∈ seeds ↔ a ∈ seeds') (a : Nat) : a ∈ L ↔ a ∈ L' := by
  rw [h.mem, h'.mem]
  exact ⟨fun hr => reach_least (P := Reach T seeds') (fun b hb => reach_seed ((hs b).1 hb)) (fun b hb he c hc => reach_step hb he hc) hr,
    fun hr => reach_least (P := Reach T seeds) (fun b hb => reach_seed ((hs b).2 hb)) (fun b hb he c hc => reach_step hb he hc) hr⟩
theorem reach_more {T : Tx} {seeds seeds' : List Nat} (hs : ∀ a ∈ seeds, a ∈ seeds') {a : Nat} (h : Reach T seeds a) : Reach T seeds' a :=
  reach_least (P := Reach T seeds') (fun b hb => reach_seed (hs b hb)) (fun b hb he c hc => reach_step hb he hc) h
/-- While the list grows: its first k are done. -/
structure Grows (T : Tx) (seeds : List Nat) (L : List Nat) (k : Nat) : Prop where
  seed : ∀ a ∈ seeds, a ∈ L
  done : ∀ (j b : Nat), j < k → L[j]? = some b → T.err b = 0 → ∀ a ∈ T.suc b, a ∈ L
  only : ∀ a ∈ L, Reach T seeds a
  once : L.Nodup
theorem Grows.closed {T : Tx} {seeds L : List Nat} {k : Nat} (h : Grows T seeds L k) (hk : L.length ≤ k) : Closed T seeds L :=
  ⟨h.seed, fun b hb he a ha => by
    obtain ⟨j, hj⟩ := List.getElem?_of_mem hb
    exact h.done j b (by have := (List.getElem?_eq_some_iff.1 hj).1; omega) hj he a ha, h.only⟩
/-- All that can be reached: the entries, and what stands behind the text's words. -/
def world (T : Tx) (seeds : List Nat) : List Nat := seeds ++ (List.range T.n).flatMap fun w => T.suc (T.adr w)
theorem reach_world {T : Tx} {seeds : List Nat} (hT : ∀ a, T.err a = 0 → ∃ w, w < T.n ∧ a = T.adr w) {a : Nat} (h : Reach T seeds a) : a ∈ world T seeds :=
  reach_least (P := fun a => a ∈ world T seeds) (fun a ha => List.mem_append_left _ ha) (fun b _ he c hc => by
    obtain ⟨w, hw, rfl⟩ := hT b he
    exact List.mem_append_right _ (List.mem_flatMap.2 ⟨w, List.mem_range.2 hw, hc⟩)) h
theorem nodup_len {α : Type} [DecidableEq α] {l m : List α} (hn : l.Nodup) (hs : ∀ a ∈ l, a ∈ m) : l.length ≤ m.length := by
  induction l generalizing m with
  | nil => exact Nat.zero_le _
  | cons a l ih =>
    rw [List.nodup_cons] at hn
    have ha : a ∈ m := hs a List.mem_cons_self
    have := ih (m := m.erase a) hn.2 (fun b hb => (List.mem_erase_of_ne (fun e => hn.1 (by rw [← e]; exact hb))).2 (hs b (List.mem_cons_of_mem _ hb)))
    rw [List.length_erase_of_mem ha] at this
    have hp : 0 < m.length := List.length_pos_of_mem ha
    rw [List.length_cons]; omega
theorem flat_len {α : Type} (l : List Nat) (f : Nat → List α) (h : ∀ w ∈ l, (f w).length ≤ 2) : (l.flatMap f).length ≤ 2 * l.length := by
  induction l with
  | nil => simp
  | cons a l ih =>
    have h1 := h a List.mem_cons_self
    have h2 := ih (fun w hw => h w (List.mem_cons_of_mem _ hw))
    rw [List.flatMap_cons, List.length_append, List.length_cons]; omega
theorem Grows.len {T : Tx} {seeds L : List Nat} {k : Nat} (h : Grows T seeds L k) (hT : ∀ a, T.err a = 0 → ∃ w, w < T.n ∧ a = T.adr w) (h2 : ∀ a, (T.suc a).length ≤ 2) : L.length ≤ seeds.length + 2 * T.n := by
  have h1 := nodup_len h.once (fun a ha => reach_world hT (h.only a ha))
  have h3 := flat_len (List.range T.n) (fun w => T.suc (T.adr w)) (fun w _ => h2 _)
  unfold world at h1
  rw [List.length_append] at h1
  rw [List.length_range] at h3
  omega

/-! ### the least error -/
def foldE (err : Nat → Nat) : List Nat → Nat × Nat → Nat × Nat
  | [], s => s
  | a :: r, s => foldE err r (if err a ≠ 0 ∧ (s.1 = 0 ∨ a < s.2) then (err a, a) else s)
def errL (err : Nat → Nat) (L : List Nat) : Nat := (foldE err L (0, 0)).1
/-- What the fold holds: no error yet, or the least one's. -/
def HoldsE (err : Nat → Nat) (M : List Nat) (s : Nat × Nat) : Prop := (s.1 = 0 ∧ ∀ a ∈ M, err a = 0) ∨ (s.1 ≠ 0 ∧ s.2 ∈ M ∧ err s.2 = s.1 ∧ ∀ b ∈ M, err b ≠ 0 → s.2 ≤ b)
theorem holds_step {err : Nat → Nat} {M : List Nat} {s : Nat × Nat} (a : Nat) (h : HoldsE err M s) : HoldsE err (M ++ [a]) (if err a ≠ 0 ∧ (s.1 = 0 ∨ a < s.2) then (err a, a) else s) := by
  by_cases hc : err a ≠ 0 ∧ (s.1 = 0 ∨ a < s.2)
  · rw [if_pos hc]
    refine .inr ⟨hc.1, by simp, rfl, fun b hb he => ?_⟩
    rcases List.mem_append.1 hb with hb | hb
    · rcases h with ⟨_, h⟩ | ⟨h0, _, _, h⟩
      · exact absurd (h b hb) he
      · have := h b hb he
        rcases hc.2 with e | e
        · exact absurd e h0
        · show a ≤ b; omega
    · simp at hb; subst hb; exact Nat.le_refl _
  · rw [if_neg hc]
    rcases h with ⟨h0, h⟩ | ⟨h0, h1, h2, h⟩
    · refine .inl ⟨h0, fun b hb => ?_⟩
      rcases List.mem_append.1 hb with hb | hb
      · exact h b hb
      · simp at hb; subst hb
        by_cases e : err b = 0
        · exact e
        · exact absurd ⟨e, .inl h0⟩ hc
    · refine .inr ⟨h0, List.mem_append_left _ h1, h2, fun b hb he => ?_⟩
      rcases List.mem_append.1 hb with hb | hb
      · exact h b hb he
      · simp at hb; subst hb
        by_cases e : b < s.2
        · exact absurd ⟨he, .inr e⟩ hc
        · omega
theorem holds_fold {err : Nat → Nat} (L : List Nat) : ∀ {M : List Nat} {s : Nat × Nat}, HoldsE err M s → HoldsE err (M ++ L) (foldE err L s) := by
  induction L with
  | nil => intro M s h; rw [List.append_nil]; exact h
  | cons a L ih =>
    intro M s h
    have := ih (holds_step a h)
    rw [List.append_assoc] at this
    exact this
theorem errL_holds (err : Nat → Nat) (L : List Nat) : HoldsE err L (foldE err L (0, 0)) := by
  have := holds_fold (err := err) L (M := []) (s := (0, 0)) (.inl ⟨rfl, fun a ha => by simp at ha⟩)
  rwa [List.nil_append] at this
theorem holds_same {err : Nat → Nat} {M M' : List Nat} {s s' : Nat × Nat} (h : HoldsE err M s) (h' : HoldsE err M' s') (hm : ∀ a, a ∈ M ↔ a ∈ M') : s.1 = s'.1 := by
  rcases h with ⟨h0, h⟩ | ⟨h0, h1, h2, h⟩
  · rcases h' with ⟨h0', _⟩ | ⟨h0', h1', h2', _⟩
    · omega
    · exact absurd (h2' ▸ h _ ((hm _).2 h1')) h0'
  · rcases h' with ⟨h0', h'⟩ | ⟨h0', h1', h2', h'⟩
    · exact absurd (h2 ▸ h' _ ((hm _).1 h1)) h0
    · have e1 := h s'.2 ((hm _).2 h1') (by rw [h2']; exact h0')
      have e2 := h' s.2 ((hm _).1 h1) (by rw [h2]; exact h0)
      have : s.2 = s'.2 := Nat.le_antisymm e1 e2
      rw [← h2, ← h2', this]
theorem errL_same {err : Nat → Nat} {L L' : List Nat} (hm : ∀ a, a ∈ L ↔ a ∈ L') : errL err L = errL err L' := holds_same (errL_holds err L) (errL_holds err L') hm
theorem errL_zero {err : Nat → Nat} {L : List Nat} (h : errL err L = 0) : ∀ a ∈ L, err a = 0 := by
  rcases errL_holds err L with ⟨_, h'⟩ | ⟨h0, _⟩
  · exact h'
  · exact absurd h h0

/-! ### where blocks begin -/
def leader (T : Tx) (seeds L : List Nat) (a : Nat) : Bool := seeds.contains a || L.any fun b => decide (T.err b = 0) && T.ends b && (T.suc b).contains a
def begins (T : Tx) (seeds L : List Nat) (w : Nat) : Bool := decide (w = 0) || !L.contains (T.adr (w - 1)) || T.ends (T.adr (w - 1)) || leader T seeds L (T.adr w)
def bump : List (Nat × Nat) → List (Nat × Nat)
  | [] => []
  | [b] => [(b.1, b.2 + 1)]
  | b :: c :: r => b :: bump (c :: r)
def blks (T : Tx) (seeds L : List Nat) : Nat → List (Nat × Nat)
  | 0 => []
  | w + 1 => if L.contains (T.adr w) = true then (if begins T seeds L w = true then blks T seeds L w ++ [(w, 1)] else bump (blks T seeds L w)) else blks T seeds L w
theorem bump_len (l : List (Nat × Nat)) : (bump l).length = l.length := by
  fun_induction bump l with
  | case1 => rfl
  | case2 b => rfl
  | case3 b c r ih => rw [List.length_cons, ih]; rfl
theorem bump_snoc (l : List (Nat × Nat)) (b : Nat × Nat) : bump (l ++ [b]) = l ++ [(b.1, b.2 + 1)] := by
  induction l with
  | nil => rfl
  | cons a l ih =>
    cases l with
    | nil => rfl
    | cons c l => rw [List.cons_append, List.cons_append, bump]; rw [List.cons_append] at ih; rw [ih]; rfl
theorem any_same {L L' : List Nat} (hm : ∀ a, a ∈ L ↔ a ∈ L') (f : Nat → Bool) : L.any f = L'.any f := by
  rw [Bool.eq_iff_iff, List.any_eq_true, List.any_eq_true]
  exact ⟨fun ⟨a, h, e⟩ => ⟨a, (hm a).1 h, e⟩, fun ⟨a, h, e⟩ => ⟨a, (hm a).2 h, e⟩⟩
theorem contains_same {L L' : List Nat} (hm : ∀ a, a ∈ L ↔ a ∈ L') (a : Nat) : L.contains a = L'.contains a := by
  rw [Bool.eq_iff_iff, List.contains_iff_mem, List.contains_iff_mem]; exact hm a
theorem leader_same {T : Tx} {seeds seeds' L L' : List Nat} (hs : ∀ a, a ∈ seeds ↔ a ∈ seeds') (hm : ∀ a, a ∈ L ↔ a ∈ L') (a : Nat) : leader T seeds L a = leader T seeds' L' a := by
  unfold leader; rw [contains_same hs, any_same hm]
theorem begins_same {T : Tx} {seeds seeds' L L' : List Nat} (hs : ∀ a, a ∈ seeds ↔ a ∈ seeds') (hm : ∀ a, a ∈ L ↔ a ∈ L') (w : Nat) : begins T seeds L w = begins T seeds' L' w := by
  unfold begins; rw [contains_same hm, leader_same hs hm]
theorem blks_same {T : Tx} {seeds seeds' L L' : List Nat} (hs : ∀ a, a ∈ seeds ↔ a ∈ seeds') (hm : ∀ a, a ∈ L ↔ a ∈ L') (w : Nat) : blks T seeds L w = blks T seeds' L' w := by
  induction w with
  | zero => rfl
  | succ w ih => rw [blks, blks, contains_same hm, begins_same hs hm, ih]
/-- What the blocks of the first w words are. -/
structure Tiles (T : Tx) (seeds L : List Nat) (w : Nat) (l : List (Nat × Nat)) : Prop where
  pos : ∀ b ∈ l, 1 ≤ b.2 ∧ b.1 + b.2 ≤ w
  in_ : ∀ b ∈ l, ∀ j, j < b.2 → T.adr (b.1 + j) ∈ L
  first : ∀ b ∈ l, begins T seeds L b.1 = true
  rest : ∀ b ∈ l, ∀ j, 0 < j → j < b.2 → begins T seeds L (b.1 + j) = false
  rise : l.Pairwise fun b c => b.1 + b.2 ≤ c.1
  all : ∀ v, v < w → T.adr v ∈ L → ∃ b ∈ l, b.1 ≤ v ∧ v < b.1 + b.2
theorem tiles (T : Tx) (seeds L : List Nat) : ∀ w, Tiles T seeds L w (blks T seeds L w) ∧ (∀ (l : List (Nat × Nat)) (b : Nat × Nat), blks T seeds L w = l ++ [b] → T.adr (w - 1) ∈ L → b.1 + b.2 = w ∨ w = 0)
  | 0 => ⟨⟨fun b hb => by simp [blks] at hb, fun b hb => by simp [blks] at hb, fun b hb => by simp [blks] at hb, fun b hb => by simp [blks] at hb, by simp [blks], fun v hv => by omega⟩, fun l b _ _ => .inr rfl⟩
  | w + 1 => by
    obtain ⟨h, hlast⟩ := tiles T seeds L w
    rw [blks]
    by_cases hc : L.contains (T.adr w) = true
    · rw [if_pos hc]
      have hin : T.adr w ∈ L := List.contains_iff_mem.1 hc
      by_cases hb : begins T seeds L w = true
      · rw [if_pos hb]
        refine ⟨⟨fun b hm => ?_, fun b hm j hj => ?_, fun b hm => ?_, fun b hm j h0 hj => ?_, ?_, fun v hv ha => ?_⟩, fun l b e _ => ?_⟩
        · rcases List.mem_append.1 hm with hm | hm
          · have := h.pos b hm; omega
          · simp at hm; subst hm; exact ⟨Nat.le_refl _, Nat.le_refl _⟩
        · rcases List.mem_append.1 hm with hm | hm
          · exact h.in_ b hm j hj
          · simp at hm; subst hm
            obtain rfl : j = 0 := by simp at hj; exact hj
            exact hin
        · rcases List.mem_append.1 hm with hm | hm
          · exact h.first b hm
          · simp at hm; subst hm; exact hb
        · rcases List.mem_append.1 hm with hm | hm
          · exact h.rest b hm j h0 hj
          · simp at hm; subst hm; simp at hj; omega
        · rw [List.pairwise_append]
          refine ⟨h.rise, List.pairwise_singleton _ _, fun a ha b hb' => ?_⟩
          simp at hb'; subst hb'
          exact (h.pos a ha).2
        · by_cases e : v = w
          · subst e; exact ⟨(v, 1), by simp, Nat.le_refl _, by simp⟩
          · obtain ⟨b, hb', h1⟩ := h.all v (by omega) ha
            exact ⟨b, List.mem_append_left _ hb', h1⟩
        · have := List.append_inj_right' e (by simp)
          simp at this; subst this
          exact .inl rfl
      · rw [if_neg hb]
        have hb' : begins T seeds L w = false := by simpa using hb
        have hw0 : w ≠ 0 := fun e => by unfold begins at hb'; subst e; simp at hb'
        have hprev : T.adr (w - 1) ∈ L := by
          unfold begins at hb'
          simp only [Bool.or_eq_false_iff, Bool.not_eq_false', List.contains_iff_mem] at hb'
          exact hb'.1.1.2
        obtain ⟨b0, hb0, h01, h02⟩ := h.all (w - 1) (by omega) hprev
        obtain ⟨l, b, e⟩ : ∃ l b, blks T seeds L w = l ++ [b] := by
          have hne : blks T seeds L w ≠ [] := fun e => by rw [e] at hb0; simp at hb0
          exact ⟨_, _, (List.dropLast_concat_getLast hne).symm⟩
        have hl := (hlast l b e hprev).resolve_right hw0
        rw [e, bump_snoc]
        rw [e] at h
        have hbm : b ∈ l ++ [b] := by simp
        refine ⟨⟨fun c hm => ?_, fun c hm j hj => ?_, fun c hm => ?_, fun c hm j h0 hj => ?_, ?_, fun v hv ha => ?_⟩, fun l' c e' _ => ?_⟩
        · rcases List.mem_append.1 hm with hm | hm
          · have := h.pos c (List.mem_append_left _ hm); omega
          · simp at hm; subst hm; have := h.pos b hbm; exact ⟨by simp, by simp; omega⟩
        · rcases List.mem_append.1 hm with hm | hm
          · exact h.in_ c (List.mem_append_left _ hm) j hj
          · simp at hm; subst hm
            by_cases ej : j = b.2
            · subst ej; show T.adr (b.1 + b.2) ∈ L; rw [hl]; exact hin
            · exact h.in_ b hbm j (by simp at hj; omega)
        · rcases List.mem_append.1 hm with hm | hm
          · exact h.first c (List.mem_append_left _ hm)
          · simp at hm; subst hm; exact h.first b hbm
        · rcases List.mem_append.1 hm with hm | hm
          · exact h.rest c (List.mem_append_left _ hm) j h0 hj
          · simp at hm; subst hm
            by_cases ej : j = b.2
            · subst ej; show begins T seeds L (b.1 + b.2) = false; rw [hl]; exact hb'
            · exact h.rest b hbm j h0 (by simp at hj; omega)
        · have hr := h.rise
          rw [List.pairwise_append] at hr ⊢
          refine ⟨hr.1, List.pairwise_singleton _ _, fun a ha c hc' => ?_⟩
          simp at hc'; subst hc'
          exact hr.2.2 a ha b (by simp)
        · by_cases ev : v = w
          · subst ev
            exact ⟨(b.1, b.2 + 1), by simp, by show b.1 ≤ v; omega, by show v < b.1 + (b.2 + 1); omega⟩
          · obtain ⟨c, hc', h1, h2⟩ := h.all v (by omega) ha
            rcases List.mem_append.1 hc' with hc' | hc'
            · exact ⟨c, List.mem_append_left _ hc', h1, h2⟩
            · simp at hc'; subst hc'
              exact ⟨(c.1, c.2 + 1), by simp, h1, by show v < c.1 + (c.2 + 1); omega⟩
        · have := List.append_inj_right' e' (by simp)
          simp at this; subst this
          exact .inl (by show b.1 + (b.2 + 1) = w + 1; omega)
    · rw [if_neg hc]
      have hno : T.adr w ∉ L := fun e => hc (List.contains_iff_mem.2 e)
      refine ⟨⟨fun b hm => by have := h.pos b hm; omega, h.in_, h.first, h.rest, h.rise, fun v hv ha => ?_⟩, fun l b e ha => absurd ha (by simpa using hno)⟩
      by_cases e : v = w
      · subst e; exact absurd ha hno
      · exact h.all v (by omega) ha
end Bl
end Go.Proofs.YtcffpmicencfpabGreat
set_option linter.unusedVariables false
namespace Go.Proofs.YtcffpmicencfpabGreat
namespace Bl

/-- What any text of words is. -/
structure Fair (T : Tx) : Prop where
  word : ∀ a, T.err a = 0 → ∃ w, w < T.n ∧ a = T.adr w
  top : T.base + 4 * T.n ≤ 4294967296
  two : ∀ a, (T.suc a).length ≤ 2
  plain : ∀ a, T.err a = 0 → T.ends a = false → T.suc a = [(a + 4) % 4294967296]
theorem adr_inj {T : Tx} {v w : Nat} (h : T.adr v = T.adr w) : v = w := by unfold Tx.adr at h; omega
theorem block_at {T : Tx} {seeds L : List Nat} {n w : Nat} {l : List (Nat × Nat)} (h : Tiles T seeds L n l) (hw : w < n) (hm : T.adr w ∈ L) (hb : begins T seeds L w = true) : ∃ b ∈ l, b.1 = w := by
  obtain ⟨b, hbl, h1, h2⟩ := h.all w hw hm
  refine ⟨b, hbl, ?_⟩
  by_cases e : b.1 = w
  · exact e
  · have := h.rest b hbl (w - b.1) (by omega) (by omega)
    rw [show b.1 + (w - b.1) = w by omega, hb] at this
    cases this
theorem pair_apart {l : List (Nat × Nat)} (h : l.Pairwise fun b c => b.1 + b.2 ≤ c.1) {b c : Nat × Nat} (hb : b ∈ l) (hc : c ∈ l) : b = c ∨ b.1 + b.2 ≤ c.1 ∨ c.1 + c.2 ≤ b.1 := by
  induction l with
  | nil => simp at hb
  | cons a l ih =>
    rw [List.pairwise_cons] at h
    rcases List.mem_cons.1 hb with hb1 | hb1
    · rcases List.mem_cons.1 hc with hc1 | hc1
      · exact .inl (hb1.trans hc1.symm)
      · exact .inr (.inl (by rw [hb1]; exact h.1 c hc1))
    · rcases List.mem_cons.1 hc with hc1 | hc1
      · exact .inr (.inr (by rw [hc1]; exact h.1 b hb1))
      · exact ih h.2 hb1 hc1
theorem block_next {T : Tx} {seeds L : List Nat} {n : Nat} {l : List (Nat × Nat)} (h : Tiles T seeds L n l) {b : Nat × Nat} (hb : b ∈ l) (hn : b.1 + b.2 < n) (hm : T.adr (b.1 + b.2) ∈ L) : ∃ c ∈ l, c.1 = b.1 + b.2 := by
  obtain ⟨c, hc, h1, h2⟩ := h.all _ hn hm
  refine ⟨c, hc, ?_⟩
  have hp := h.pos b hb
  rcases pair_apart h.rise hb hc with rfl | h3 | h3 <;> omega
/-- Within a block nothing ends it. -/
theorem inner {T : Tx} {seeds L : List Nat} {w : Nat} (h : begins T seeds L (w + 1) = false) : T.adr w ∈ L ∧ T.ends (T.adr w) = false ∧ leader T seeds L (T.adr (w + 1)) = false := by
  unfold begins at h
  simp only [Bool.or_eq_false_iff, Bool.not_eq_false', List.contains_iff_mem, Nat.add_sub_cancel] at h
  exact ⟨h.1.1.2, h.1.2, h.2⟩
theorem leader_begins {T : Tx} {seeds L : List Nat} {w : Nat} (h : leader T seeds L (T.adr w) = true) : begins T seeds L w = true := by
  unfold begins; rw [h]; simp
theorem leader_seed {T : Tx} {seeds L : List Nat} {a : Nat} (h : a ∈ seeds) : leader T seeds L a = true := by
  unfold leader; rw [List.contains_iff_mem.2 h]; rfl
theorem leader_of {T : Tx} {seeds L : List Nat} {a b : Nat} (hb : b ∈ L) (h0 : T.err b = 0) (he : T.ends b = true) (ha : a ∈ T.suc b) : leader T seeds L a = true := by
  unfold leader
  rw [Bool.or_eq_true]
  refine .inr (List.any_eq_true.2 ⟨b, hb, ?_⟩)
  rw [he, List.contains_iff_mem.2 ha]
  simp [h0]
/-- Behind a block's last instruction blocks begin. -/
theorem behind {T : Tx} {seeds L : List Nat} (hT : Fair T) (hc : Closed T seeds L) (h0 : ∀ a ∈ L, T.err a = 0) {b : Nat × Nat} (hb : b ∈ blks T seeds L T.n) {a : Nat} (ha : a ∈ T.suc (T.adr (b.1 + (b.2 - 1)))) : ∃ c ∈ blks T seeds L T.n, T.adr c.1 = a := by
  have h := (tiles T seeds L T.n).1
  have hp := h.pos b hb
  have hm := h.in_ b hb (b.2 - 1) (by omega)
  have hi := hc.step _ hm (h0 _ hm) a ha
  obtain ⟨w, hw, rfl⟩ := hT.word a (h0 a hi)
  by_cases he : T.ends (T.adr (b.1 + (b.2 - 1))) = true
  · obtain ⟨c, hcm, rfl⟩ := block_at h hw hi (leader_begins (leader_of hm (h0 _ hm) he ha))
    exact ⟨c, hcm, rfl⟩
  · have hs := hT.plain _ (h0 _ hm) (by simpa using he)
    rw [hs] at ha
    simp at ha
    have ht := hT.top
    by_cases hz : b.1 + b.2 < T.n
    · have e : w = b.1 + b.2 := by
        refine adr_inj (T := T) ?_
        unfold Tx.adr at ha ⊢
        omega
      subst e
      obtain ⟨c, hcm, e⟩ := block_next h hb hz hi
      exact ⟨c, hcm, by rw [e]⟩
    · obtain rfl : w = 0 := by unfold Tx.adr at ha; omega
      obtain ⟨c, hcm, h1, h2⟩ := h.all 0 hw hi
      exact ⟨c, hcm, by rw [show c.1 = 0 by omega]⟩
/-- A place that begins a block is the first word, or stands behind an end, or is led to. -/
theorem begins_iff {T : Tx} {seeds L : List Nat} (hT : Fair T) (hc : Closed T seeds L) {w : Nat} (hw : w < T.n) (hm : T.adr w ∈ L) (hb : begins T seeds L w = true) : w = 0 ∨ T.ends (T.adr (w - 1)) = true ∨ leader T seeds L (T.adr w) = true := by
  unfold begins at hb
  simp only [Bool.or_eq_true, decide_eq_true_eq, Bool.not_eq_true'] at hb
  rcases hb with ((h | h) | h) | h
  · exact .inl h
  · by_cases hw0 : w = 0
    · exact .inl hw0
    · refine .inr (.inr ?_)
      have hno : T.adr (w - 1) ∉ L := fun e => by rw [List.contains_iff_mem.2 e] at h; cases h
      obtain ⟨m, hr⟩ := (hc.mem _).1 hm
      cases m with
      | zero => exact leader_seed hr
      | succ m =>
        have key : ∀ m, RN T seeds m (T.adr w) → leader T seeds L (T.adr w) = true := fun m => by
          induction m with
          | zero => intro hr; exact leader_seed hr
          | succ m ih =>
            intro hr
            rcases hr with hr | ⟨b, hbr, h0, ha⟩
            · exact ih hr
            · have hbl : b ∈ L := (hc.mem b).2 ⟨m, hbr⟩
              by_cases he : T.ends b = true
              · exact leader_of hbl h0 he ha
              · have hs := hT.plain b h0 (by simpa using he)
                rw [hs] at ha
                simp at ha
                obtain ⟨v, hv, rfl⟩ := hT.word b h0
                have ht := hT.top
                have e : v = w - 1 := by unfold Tx.adr at ha; omega
                subst e
                exact absurd hbl hno
        exact key _ hr
  · exact .inr (.inl h)
  · exact .inr (.inr h)
theorem begins_more {T : Tx} {seeds seeds' L L' : List Nat} (hT : Fair T) (hc : Closed T seeds L) (hc' : Closed T seeds' L') (hs : ∀ a ∈ seeds, a ∈ seeds') {w : Nat} (hw : w < T.n) (hm : T.adr w ∈ L) (hb : begins T seeds L w = true) : T.adr w ∈ L' ∧ begins T seeds' L' w = true := by
  have hLL : ∀ a ∈ L, a ∈ L' := fun a ha => (hc'.mem a).2 (reach_more hs ((hc.mem a).1 ha))
  refine ⟨hLL _ hm, ?_⟩
  rcases begins_iff hT hc hw hm hb with h | h | h
  · unfold begins; subst h; simp
  · unfold begins; rw [h]; simp
  · refine leader_begins ?_
    unfold leader at h ⊢
    rw [Bool.or_eq_true] at h ⊢
    rcases h with h | h
    · exact .inl (List.contains_iff_mem.2 (hs _ (List.contains_iff_mem.1 h)))
    · obtain ⟨b, hb', e⟩ := List.any_eq_true.1 h
      exact .inr (List.any_eq_true.2 ⟨b, hLL b hb', e⟩)
def cntB (f : Nat → Bool) : Nat → Nat
  | 0 => 0
  | w + 1 => if f w = true then cntB f w + 1 else cntB f w
theorem cntB_le {f g : Nat → Bool} (n : Nat) (h : ∀ w, w < n → f w = true → g w = true) : cntB f n ≤ cntB g n := by
  induction n with
  | zero => exact Nat.le_refl _
  | succ n ih =>
    have := ih (fun w hw => h w (by omega))
    rw [cntB, cntB]
    by_cases hf : f n = true
    · rw [if_pos hf, if_pos (h n (by omega) hf)]; omega
    · rw [if_neg hf]; split <;> omega
def sumN (l : List (Nat × Nat)) : Nat := (l.map Prod.snd).sum
theorem sumN_snoc (l : List (Nat × Nat)) (b : Nat × Nat) : sumN (l ++ [b]) = sumN l + b.2 := by simp [sumN]
theorem begins_zero {T : Tx} {seeds L : List Nat} : begins T seeds L 0 = true := by unfold begins; simp
theorem blks_len (T : Tx) (seeds L : List Nat) (w : Nat) : (blks T seeds L w).length = cntB (fun v => L.contains (T.adr v) && begins T seeds L v) w := by
  induction w with
  | zero => rfl
  | succ w ih =>
    rw [blks, cntB]
    by_cases h1 : L.contains (T.adr w) = true
    · rw [if_pos h1]
      by_cases h2 : begins T seeds L w = true
      · rw [if_pos h2, if_pos (by rw [h1, h2]; rfl), List.length_append, ih]; rfl
      · rw [if_neg h2, if_neg (by rw [h1]; simpa using h2), bump_len, ih]
    · rw [if_neg h1, if_neg (by simp only [Bool.and_eq_true]; exact fun h => h1 h.1), ih]
theorem blks_sum (T : Tx) (seeds L : List Nat) (w : Nat) : sumN (blks T seeds L w) = cntB (fun v => L.contains (T.adr v)) w := by
  induction w with
  | zero => rfl
  | succ w ih =>
    rw [blks, cntB]
    by_cases h1 : L.contains (T.adr w) = true
    · rw [if_pos h1, if_pos h1]
      by_cases h2 : begins T seeds L w = true
      · rw [if_pos h2, sumN_snoc, ih]
      · rw [if_neg h2]
        have hb' : begins T seeds L w = false := by simpa using h2
        have hw0 : w ≠ 0 := fun e => by subst e; rw [begins_zero] at hb'; cases hb'
        have hprev : T.adr (w - 1) ∈ L := by
          have := inner (T := T) (seeds := seeds) (L := L) (w := w - 1) (by rw [show w - 1 + 1 = w by omega]; exact hb')
          exact this.1
        obtain ⟨b0, hb0, _⟩ := (tiles T seeds L w).1.all (w - 1) (by omega) hprev
        obtain ⟨l, b, e⟩ : ∃ l b, blks T seeds L w = l ++ [b] := by
          have hne : blks T seeds L w ≠ [] := fun e => by rw [e] at hb0; simp at hb0
          exact ⟨_, _, (List.dropLast_concat_getLast hne).symm⟩
        rw [e, sumN_snoc] at ih
        rw [e, bump_snoc, sumN_snoc]
        show sumN l + (b.2 + 1) = _
        omega
    · rw [if_neg h1, if_neg h1, ih]
theorem blks_more {T : Tx} {seeds seeds' L L' : List Nat} (hT : Fair T) (hc : Closed T seeds L) (hc' : Closed T seeds' L') (hs : ∀ a ∈ seeds, a ∈ seeds') :
    sumN (blks T seeds L T.n) ≤ sumN (blks T seeds' L' T.n) ∧ (blks T seeds L T.n).length ≤ (blks T seeds' L' T.n).length := by
  have hLL : ∀ a ∈ L, a ∈ L' := fun a ha => (hc'.mem a).2 (reach_more hs ((hc.mem a).1 ha))
  rw [blks_sum, blks_sum, blks_len, blks_len]
  refine ⟨cntB_le _ fun w _ h => List.contains_iff_mem.2 (hLL _ (List.contains_iff_mem.1 h)), cntB_le _ fun w hw h => ?_⟩
  rw [Bool.and_eq_true] at h ⊢
  have := begins_more hT hc hc' hs hw (List.contains_iff_mem.1 h.1) h.2
  exact ⟨List.contains_iff_mem.2 this.1, this.2⟩
end Bl
end Go.Proofs.YtcffpmicencfpabGreat
set_option linter.unusedVariables false
namespace Go.Proofs.YtcffpmicencfpabGreat
namespace Bl
open Ip

def toA (at_ : Nat) (imm : Int) : Nat := (((at_ : Int) + imm) % 4294967296).toNat
def nxA (at_ : Nat) : Nat := (at_ + 4) % 4294967296
def goesB (op : Int) : Bool := decide (op = 2 ∨ frm op = 66)
def staysB (op rd : Int) : Bool := decide ((op ≠ 2 ∧ op ≠ 3) ∨ rd ≠ 0)
/-- Where a program may go on behind an instruction, rising. -/
def aft (op rd rs1 rs2 imm : Int) (at_ : Nat) : List Nat :=
  if right op rd rs1 rs2 imm = false ∨ op = 46 then []
  else if goesB op = true ∧ staysB op rd = true ∧ toA at_ imm ≠ nxA at_ then [min (toA at_ imm) (nxA at_), max (toA at_ imm) (nxA at_)]
  else if goesB op = true then [toA at_ imm]
  else if staysB op rd = true then [nxA at_] else []
def endsB (op rd rs1 rs2 imm : Int) : Bool := !right op rd rs1 rs2 imm || decide (frm op = 66 ∨ op = 2 ∨ op = 3 ∨ op = 46)
theorem aft_two (op rd rs1 rs2 imm : Int) (at_ : Nat) : (aft op rd rs1 rs2 imm at_).length ≤ 2 := by
  unfold aft
  split
  · simp
  · split
    · simp
    · split
      · simp
      · split <;> simp
theorem aft_plain {op rd rs1 rs2 imm : Int} {at_ : Nat} (h : endsB op rd rs1 rs2 imm = false) : aft op rd rs1 rs2 imm at_ = [nxA at_] := by
  unfold endsB at h
  rw [Bool.or_eq_false_iff, Bool.not_eq_false'] at h
  have h2 := of_decide_eq_false h.2
  unfold aft
  rw [if_neg (by rw [h.1]; intro e; rcases e with e | e; · cases e
                 · exact h2 (.inr (.inr (.inr e))))]
  have hg : goesB op = false := decide_eq_false fun e => by
    rcases e with e | e
    · exact h2 (.inr (.inl e))
    · exact h2 (.inl e)
  have hs : staysB op rd = true := decide_eq_true (.inl ⟨fun e => h2 (.inr (.inl e)), fun e => h2 (.inr (.inr (.inl e)))⟩)
  rw [if_neg (by rw [hg]; intro e; cases e.1), if_neg (by rw [hg]; simp), if_pos hs]
theorem aft_rise {op rd rs1 rs2 imm : Int} {at_ a b : Nat} (h : aft op rd rs1 rs2 imm at_ = [a, b]) : a < b := by
  unfold aft at h
  split at h
  · cases h
  · split at h
    · rename_i hc
      injection h with h1 h2
      injection h2 with h2 _
      have := hc.2.2
      omega
    · split at h
      · cases h
      · split at h <;> cases h
theorem aft_lt {op rd rs1 rs2 imm : Int} {at_ : Nat} : ∀ a ∈ aft op rd rs1 rs2 imm at_, a < 4294967296 := by
  have h1 : toA at_ imm < 4294967296 := by unfold toA; omega
  have h2 : nxA at_ < 4294967296 := by unfold nxA; omega
  intro a ha
  unfold aft at ha
  split at ha
  · simp at ha
  · split at ha
    · simp only [List.mem_cons, List.not_mem_nil, or_false] at ha
      rcases ha with rfl | rfl <;> omega
    · split at ha
      · simp at ha; omega
      · split at ha
        · simp at ha; omega
        · simp at ha
end Bl
end Go.Proofs.YtcffpmicencfpabGreat
set_option linter.unusedVariables false
namespace Go.Proofs.YtcffpmicencfpabGreat
namespace Bl
open Ip

structure Ins where
  op : Int
  rd : Int
  rs1 : Int
  rs2 : Int
  imm : Int
def noIns : Ins := ⟨0, 0, 0, 0, 0⟩
def kindOf (x : BitVec 32) : Option Nat := (List.range 47).find? fun k => asked x k
theorem kind_some {x : BitVec 32} {k : Nat} (h : kindOf x = some k) : k < 47 ∧ asked x k = true := by
  unfold kindOf at h
  exact ⟨List.mem_range.1 (List.mem_of_find?_eq_some h), List.find?_some (p := fun k => asked x k) h⟩
theorem kind_none {x : BitVec 32} (h : kindOf x = none) : ∀ k, k < 47 → asked x k = false := fun k hk => by
  unfold kindOf at h
  have := List.find?_eq_none.1 h k (List.mem_range.2 hk)
  simpa using this
def insW (x : BitVec 32) : Ins := match kindOf x with
  | some k => ⟨(k : Int), regIf (hRd (kf k)) x 7, regIf (hRs1 (kf k)) x 15, regIf (hRs2 (kf k)) x 20, number x (kf k)⟩
  | none => noIns
def errW (x : BitVec 32) : Nat := match kindOf x with
  | some _ => 0
  | none => 80
def adrB (a : Nat) : BitVec 32 := BitVec.ofNat 32 a
theorem adrB_nat {a : Nat} (h : a < 4294967296) : (adrB a).toNat = a := by unfold adrB; rw [BitVec.toNat_ofNat, Nat.mod_eq_of_lt (by omega)]
theorem adrB_of (a : BitVec 32) : adrB a.toNat = a := by unfold adrB; simp
def wordA (i : Img) (a : Nat) : BitVec 32 := adrB (atW i (adrB a))
/-- A word of the text stands at the address. -/
def hitA (i : Img) (a : Nat) : Bool := decide (a < 4294967296) && atB i (adrB a)
theorem hitA_of {i : Img} {a : Nat} (h : a < 4294967296) : hitA i a = atB i (adrB a) := by unfold hitA; rw [decide_eq_true h]; rfl
def insA (i : Img) (a : Nat) : Ins := if hitA i a = true then insW (wordA i a) else noIns
def errA (i : Img) (a : Nat) : Nat := if hitA i a = true then errW (wordA i a) else 81
def aftI (x : Ins) (a : Nat) : List Nat := aft x.op x.rd x.rs1 x.rs2 x.imm a
def endsI (x : Ins) : Bool := endsB x.op x.rd x.rs1 x.rs2 x.imm
def txI (i : Img) : Tx := ⟨i.base.toNat, i.words.length, errA i, fun a => aftI (insA i a) a, fun a => endsI (insA i a)⟩

theorem errW_of {x : BitVec 32} (h : errW x ≠ 0) : errW x = 80 ∧ insW x = noIns := by
  unfold errW insW at *
  cases e : kindOf x with
  | some k => rw [e] at h; exact absurd rfl h
  | none => exact ⟨rfl, rfl⟩
theorem errA_cases (i : Img) (a : Nat) : errA i a = 0 ∨ errA i a = 80 ∨ errA i a = 81 := by
  unfold errA
  split
  · by_cases h : errW (wordA i a) = 0
    · exact .inl h
    · exact .inr (.inl (errW_of h).1)
  · exact .inr (.inr rfl)
theorem insA_err {i : Img} {a : Nat} (h : errA i a ≠ 0) : insA i a = noIns := by
  unfold errA insA at *
  split
  · rename_i hb
    rw [if_pos hb] at h
    exact (errW_of h).2
  · rfl
theorem ends_none : endsI noIns = false := by decide
theorem hit_word {i : Img} (hi : i.ok) {a : Nat} (h : hitA i a = true) : a < 4294967296 ∧ ∃ w, w < i.words.length ∧ a = i.base.toNat + 4 * w := by
  unfold hitA at h
  rw [Bool.and_eq_true] at h
  have ha := of_decide_eq_true h.1
  have hd := of_decide_eq_true h.2
  rw [adrB_nat ha] at hd
  have hi1 := hi.1
  refine ⟨ha, (a - i.base.toNat) / 4, ?_, ?_⟩ <;> omega
theorem txI_word {i : Img} (hi : i.ok) {a : Nat} (h : (txI i).err a = 0) : ∃ w, w < (txI i).n ∧ a = (txI i).adr w := by
  have h' : errA i a = 0 := h
  unfold errA at h'
  split at h'
  · rename_i hb
    exact (hit_word hi hb).2
  · cases h'
theorem txI_fair {i : Img} (hi : i.ok) : Fair (txI i) :=
  ⟨fun a h => txI_word hi h, hi.2.1, fun a => aft_two _ _ _ _ _ _, fun a _ he => aft_plain he⟩
theorem suc_lt {i : Img} {a b : Nat} (h : b ∈ (txI i).suc a) : b < 4294967296 := aft_lt b h
theorem adr_hit {i : Img} (hi : i.ok) {w : Nat} (hw : w < i.words.length) : hitA i (i.base.toNat + 4 * w) = true := by
  have h2 := hi.2.1
  have h1 := hi.1
  unfold hitA
  have ha : i.base.toNat + 4 * w < 4294967296 := by omega
  rw [Bool.and_eq_true]
  refine ⟨decide_eq_true ha, decide_eq_true ?_⟩
  rw [adrB_nat ha]; omega
end Bl
end Go.Proofs.YtcffpmicencfpabGreat
set_option linter.unusedVariables false
namespace Go.Proofs.YtcffpmicencfpabGreat
open Go.RowKit Go.Maps

namespace Pm
/-- What is known of an address: why no instruction stands there, whether one that ends a block does, whether it is a leader. -/
structure Plc where
  e : Int
  ends : Bool
  leads : Bool
def noPlc : Plc := ⟨0, false, false⟩
abbrev Plcs := List (Nat × Plc)
def plcV (p : Plc) : Value := .agg #[.int .i64 p.e, .bool p.ends, .bool p.leads]
def plcD (p : Plc) : DataW Unit := .agg [.lit (.int .i64 p.e), .lit (.bool p.ends), .lit (.bool p.leads)]
def plcElem (v : Value) : Option (DataW Unit × List MemPlace) :=
  match v with
  | .agg cs => match cs.toList with
    | [.int .i64 e, .bool a, .bool b] => some (plcD ⟨e, a, b⟩, [])
    | _ => none
  | _ => none
theorem plcElem_mk (p : Plc) : plcElem (plcV p) = some (plcD p, []) := rfl
theorem plcD_inj {p q : Plc} (h : plcD p = plcD q) : p = q := by
  obtain ⟨a, b, c⟩ := p
  obtain ⟨a', b', c'⟩ := q
  unfold plcD at h
  simp at h
  obtain ⟨rfl, rfl, rfl⟩ := h
  rfl
theorem plcElem_inv {v : Value} {y : DataW Unit × List MemPlace} (h : plcElem v = some y) : ∃ p, v = plcV p ∧ y = (plcD p, []) := by
  unfold plcElem at h
  split at h
  · rename_i cs
    split at h
    · rename_i e a b hcs
      refine ⟨⟨e, a, b⟩, ?_, (Option.some.inj h).symm⟩
      have : cs = #[.int .i64 e, .bool a, .bool b] := by rw [← Array.toArray_toList (xs := cs), hcs]
      rw [this]; rfl
    · cases h
  · cases h
theorem plcElem_at {v : Value} {p : Plc} {ps : List MemPlace} (h : plcElem v = some (plcD p, ps)) : v = plcV p := by
  obtain ⟨q, rfl, e⟩ := plcElem_inv h
  injection e with e1 _
  rw [plcD_inj e1]

def lookP : Plcs → Nat → Option Plc
  | [], _ => none
  | p :: r, a => if p.1 = a then some p.2 else lookP r a
def at_ (l : Plcs) (a : Nat) : Plc := (lookP l a).getD noPlc
def ins (a : Nat) (c : Plc) : Plcs → Plcs
  | [] => [(a, c)]
  | p :: r => if a < p.1 then (a, c) :: p :: r else if p.1 = a then (a, c) :: r else p :: ins a c r
def del (a : Nat) (l : Plcs) : Plcs := l.filter fun p => !(p.1 == a)
structure Rise (l : Plcs) : Prop where
  up : l.Pairwise fun p q => p.1 < q.1
  ok : ∀ p ∈ l, p.1 < 4294967296
def ent (p : Nat × Plc) : Lit × DataW Unit := (.int .u32 (p.1 : Int), plcD p.2)
def D (l : Plcs) : DataW Unit := .map (l.map ent)
def keysI (l : Plcs) : List Int := l.map fun p => (p.1 : Int)

theorem rise_nil : Rise [] := ⟨List.Pairwise.nil, by simp⟩
theorem Rise.tail {p : Nat × Plc} {l : Plcs} (h : Rise (p :: l)) : Rise l := ⟨(List.pairwise_cons.1 h.up).2, fun q hq => h.ok q (List.mem_cons_of_mem _ hq)⟩
theorem Rise.head {p : Nat × Plc} {l : Plcs} (h : Rise (p :: l)) : ∀ q ∈ l, p.1 < q.1 := (List.pairwise_cons.1 h.up).1
theorem mem_ins {a : Nat} {c : Plc} {q : Nat × Plc} : ∀ {l : Plcs}, q ∈ ins a c l → q = (a, c) ∨ q ∈ l
  | [], h => by simp [ins] at h; exact .inl h
  | p :: r, h => by
    unfold ins at h
    split at h
    · rcases List.mem_cons.1 h with e | e
      · exact .inl e
      · exact .inr e
    · split at h
      · rcases List.mem_cons.1 h with e | e
        · exact .inl e
        · exact .inr (List.mem_cons_of_mem _ e)
      · rcases List.mem_cons.1 h with e | e
        · exact .inr (by rw [e]; exact List.mem_cons_self)
        · rcases mem_ins e with e' | e'
          · exact .inl e'
          · exact .inr (List.mem_cons_of_mem _ e')
theorem rise_ins {a : Nat} {c : Plc} (ha : a < 4294967296) : ∀ {l : Plcs}, Rise l → Rise (ins a c l)
  | [], _ => ⟨by simp [ins], by simp [ins]; omega⟩
  | p :: r, h => by
    have hr := rise_ins (c := c) ha h.tail
    unfold ins
    split
    · rename_i hlt
      refine ⟨List.pairwise_cons.2 ⟨fun q hq => ?_, h.up⟩, fun q hq => ?_⟩
      · rcases List.mem_cons.1 hq with rfl | e
        · exact hlt
        · exact Nat.lt_trans hlt (h.head q e)
      · rcases List.mem_cons.1 hq with rfl | e
        · exact ha
        · exact h.ok q e
    · split
      · rename_i _ he
        refine ⟨List.pairwise_cons.2 ⟨fun q hq => ?_, h.tail.up⟩, fun q hq => ?_⟩
        · have := h.head q hq; show a < q.1; omega
        · rcases List.mem_cons.1 hq with rfl | e
          · exact ha
          · exact h.ok q (List.mem_cons_of_mem _ e)
      · rename_i h1 h2
        refine ⟨List.pairwise_cons.2 ⟨fun q hq => ?_, hr.up⟩, fun q hq => ?_⟩
        · rcases mem_ins hq with rfl | e
          · show p.1 < a; omega
          · exact h.head q e
        · rcases List.mem_cons.1 hq with rfl | e
          · exact h.ok _ List.mem_cons_self
          · exact hr.ok q e
theorem look_ins {a : Nat} {c : Plc} {x : Nat} : ∀ {l : Plcs}, lookP (ins a c l) x = if x = a then some c else lookP l x
  | [] => by simp [ins, lookP]; by_cases h : x = a <;> simp [h]; intro e; exact absurd e.symm h
  | p :: r => by
    have ih := @look_ins a c x r
    unfold ins
    split
    · simp only [lookP]; by_cases h : a = x
      · rw [if_pos h, if_pos h.symm]
      · rw [if_neg h, if_neg (Ne.symm h)]
    · split
      · rename_i _ he
        simp only [lookP]; by_cases h : a = x
        · rw [if_pos h, if_pos h.symm]
        · rw [if_neg h, if_neg (Ne.symm h), if_neg (by rw [he]; exact h)]
      · rename_i _ he
        simp only [lookP]; rw [ih]
        by_cases h : p.1 = x
        · rw [if_pos h, if_pos h, if_neg (by rw [← h]; exact he)]
        · rw [if_neg h, if_neg h]
theorem look_mem {l : Plcs} (h : Rise l) {p : Nat × Plc} (hp : p ∈ l) : lookP l p.1 = some p.2 := by
  induction l with
  | nil => simp at hp
  | cons q r ih =>
    unfold lookP
    rcases List.mem_cons.1 hp with rfl | e
    · rw [if_pos rfl]
    · have := h.head p e; rw [if_neg (by omega)]; exact ih h.tail e
theorem mem_look {l : Plcs} {a : Nat} {c : Plc} (h : lookP l a = some c) : (a, c) ∈ l := by
  induction l with
  | nil => simp [lookP] at h
  | cons p r ih =>
    unfold lookP at h
    by_cases e : p.1 = a
    · rw [if_pos e] at h
      injection h with h
      rw [← e, ← h]; exact List.mem_cons_self
    · rw [if_neg e] at h; exact List.mem_cons_of_mem _ (ih h)
theorem length_from : ∀ {l : Plcs} {lo : Nat}, l.Pairwise (fun p q => p.1 < q.1) → (∀ p ∈ l, lo ≤ p.1 ∧ p.1 < 4294967296) → lo ≤ 4294967296 → l.length ≤ 4294967296 - lo
  | [], lo, _, _, h => by simp
  | p :: r, lo, hp, hr, h => by
    have a := hr p List.mem_cons_self
    have := @length_from r (p.1 + 1) (List.pairwise_cons.1 hp).2 (fun q hq => by have := (List.pairwise_cons.1 hp).1 q hq; have := hr q (List.mem_cons_of_mem _ hq); omega) (by omega)
    simp; omega
theorem Rise.length {l : Plcs} (h : Rise l) : l.length ≤ 4294967296 := by
  have := length_from (lo := 0) h.up (fun p hp => by have := h.ok p hp; omega) (by omega); omega

/-! ### the map's datum -/
theorem same_n (a b : Nat) : (Lit.int .u32 (a : Int)).sameKey (.int .u32 (b : Int)) = (a == b) := by
  rw [Bool.eq_iff_iff, beq_iff_eq]
  simp only [Lit.sameKey]
  by_cases h : a = b <;> simp [h]; omega
theorem same_u32 (a b : Int) : (Lit.int .u32 a).sameKey (.int .u32 b) = (a == b) := by simp only [Lit.sameKey]; by_cases h : a = b <;> simp [h]
theorem before_n (a b : Nat) : (Lit.int .u32 (a : Int)).before (.int .u32 (b : Int)) = decide (a < b) := by simp [Lit.before]
theorem D_atKey (l : Plcs) (a : Nat) : (D l).atKey (.int .u32 (a : Int)) (plcD noPlc) = plcD (at_ l a) := by
  unfold D DataW.atKey at_
  induction l with
  | nil => simp [lookP]
  | cons p r ih =>
    simp only [List.map_cons, List.find?_cons, lookP]
    by_cases h : p.1 = a
    · have e : (ent p).1.sameKey (.int .u32 (a : Int)) = true := by simp only [ent, same_n, h, beq_self_eq_true]
      rw [e, if_pos h]; simp [ent]
    · have e : (ent p).1.sameKey (.int .u32 (a : Int)) = false := by simp only [ent, same_n]; exact beq_eq_false_iff_ne.2 h
      rw [e, if_neg h]; exact ih
theorem filter_ent (a : Nat) (l : Plcs) : (l.map ent).filter (fun p => !p.1.sameKey (.int .u32 (a : Int))) = (del a l).map ent := by
  unfold del
  rw [List.filter_map]
  congr 2
  funext p; simp only [Function.comp, ent, same_n]
theorem insert_ent {a : Nat} {c : Plc} : ∀ {l : Plcs}, Rise l → DataW.insert (ent (a, c)) ((del a l).map ent) = (ins a c l).map ent
  | [], _ => rfl
  | p :: r, h => by
    have ih := @insert_ent a c r h.tail
    unfold del at ih ⊢
    rw [List.filter_cons]
    by_cases he : p.1 = a
    · have e : (!(p.1 == a)) = false := by simp [he]
      have hf : r.filter (fun q => !(q.1 == a)) = r := List.filter_eq_self.2 fun q hq => by have := h.head q hq; simp; omega
      simp only [e, Bool.false_eq_true, if_false]
      rw [hf]
      have e2 : ins a c (p :: r) = (a, c) :: r := by unfold ins; rw [if_neg (by omega), if_pos he]
      rw [e2]
      cases r with
      | nil => rfl
      | cons q s =>
        simp only [List.map_cons, DataW.insert]
        have hq := h.head q List.mem_cons_self
        have : (ent (a, c)).1.before (ent q).1 = true := by simp only [ent, before_n, decide_eq_true_eq]; omega
        rw [if_pos this]
    · have e : (!(p.1 == a)) = true := by simp [he]
      simp only [e, if_true, List.map_cons, DataW.insert]
      by_cases hlt : a < p.1
      · have hb : (ent (a, c)).1.before (ent p).1 = true := by simp only [ent, before_n, decide_eq_true_eq]; exact hlt
        have hf : r.filter (fun q => !(q.1 == a)) = r := List.filter_eq_self.2 fun q hq => by have := h.head q hq; simp; omega
        rw [if_pos hb, hf]
        unfold ins; rw [if_pos hlt]; rfl
      · have hb : ¬ (ent (a, c)).1.before (ent p).1 = true := by simp only [ent, before_n, decide_eq_true_eq]; exact hlt
        rw [if_neg hb, ih]
        conv => rhs; unfold ins
        rw [if_neg hlt, if_neg he]; rfl
theorem D_put {l : Plcs} (h : Rise l) (a : Nat) (c : Plc) : (D l).put (.int .u32 (a : Int)) (plcD c) = D (ins a c l) := by
  unfold D DataW.put; simp only; rw [filter_ent]; exact congrArg DataW.map (insert_ent h)
theorem size_D (l : Plcs) : Maps.size (D l) = l.length := by simp [Maps.size, D]
theorem has_D (l : Plcs) (a : Int) : Maps.has (D l) (.int .u32 a) = l.any (fun p => (p.1 : Int) == a) := by
  show (l.map ent).any _ = _
  rw [List.any_map]; congr 1
  funext p; simp only [Function.comp, ent, same_u32]
theorem has_n (l : Plcs) (a : Nat) : Maps.has (D l) (.int .u32 (a : Int)) = (lookP l a).isSome := by
  rw [has_D]
  induction l with
  | nil => rfl
  | cons p r ih =>
    rw [List.any_cons, ih, lookP]
    by_cases h : p.1 = a
    · rw [if_pos h, h]; simp
    · rw [if_neg h]
      have : ((p.1 : Int) == (a : Int)) = false := beq_eq_false_iff_ne.2 (by omega)
      rw [this]; rfl
theorem wf_u32 {a : Int} (h : 0 ≤ a ∧ a < 4294967296) : (Lit.int .u32 a).wf = true := WalkArith.wf_u32 (by omega)
end Pm
end Go.Proofs.YtcffpmicencfpabGreat
set_option linter.unusedVariables false
namespace Go.Proofs.YtcffpmicencfpabGreat
namespace Bl
open Pm

/-- r: the map; wait: not yet looked at; done: looked at; E: what reach was called with. -/
structure Work (T : Tx) (seeds : List Nat) (r : Plcs) (wait done : List Nat) (E : List (Nat × Bool)) : Prop where
  rise : Rise r
  keys : ∀ a, (lookP r a).isSome = true ↔ a ∈ wait ∨ a ∈ done
  edge : ∀ a, (lookP r a).isSome = true ↔ ∃ p ∈ E, p.1 = a
  once : (wait ++ done).Nodup
  fresh : ∀ a ∈ wait, ∃ b, lookP r a = some ⟨0, false, b⟩
  known : ∀ a ∈ done, ∃ b, lookP r a = some ⟨(T.err a : Int), T.ends a, b⟩
  lead : ∀ a, (at_ r a).leads = true ↔ (a, true) ∈ E
  only : ∀ p ∈ E, Reach T seeds p.1
theorem work_start (T : Tx) (seeds : List Nat) : Work T seeds [] [] [] [] :=
  ⟨rise_nil, fun a => by simp [lookP], fun a => by simp [lookP], List.nodup_nil, fun a h => by simp at h, fun a h => by simp at h, fun a => by simp [at_, lookP, noPlc], fun p h => by simp at h⟩
theorem at_some {r : Plcs} {a : Nat} {p : Plc} (h : lookP r a = some p) : at_ r a = p := by unfold at_; rw [h]; rfl
theorem at_none {r : Plcs} {a : Nat} (h : lookP r a = none) : at_ r a = noPlc := by unfold at_; rw [h]; rfl
theorem at_ins {r : Plcs} {a x : Nat} {p : Plc} : at_ (ins a p r) x = if x = a then p else at_ r x := by
  unfold at_; rw [look_ins]; split <;> rfl
def rchW (r : Plcs) (wait : List Nat) (a : Nat) : List Nat := if (lookP r a).isSome = true then wait else wait ++ [a]
def rchR (r : Plcs) (a : Nat) (l : Bool) : Plcs := ins a ⟨(at_ r a).e, (at_ r a).ends, (at_ r a).leads || l⟩ r
theorem Work.reach {T : Tx} {seeds : List Nat} {r : Plcs} {wait done : List Nat} {E : List (Nat × Bool)} (h : Work T seeds r wait done E) {a : Nat} (ha : a < 4294967296) (l : Bool) (hr : Reach T seeds a) :
    Work T seeds (rchR r a l) (rchW r wait a) done (E ++ [(a, l)]) := by
  have hk : ∀ x, (lookP (rchR r a l) x).isSome = true ↔ x = a ∨ (lookP r x).isSome = true := fun x => by
    unfold rchR; rw [look_ins]
    by_cases e : x = a
    · rw [if_pos e]; simp [e]
    · rw [if_neg e]; simp [e]
  have hw : ∀ x, x ∈ rchW r wait a ↔ x ∈ wait ∨ (x = a ∧ lookP r a = none) := fun x => by
    unfold rchW
    by_cases e : (lookP r a).isSome = true
    · rw [if_pos e]
      have : lookP r a ≠ none := fun c => by rw [c] at e; cases e
      simp [this]
    · rw [if_neg e]
      have : lookP r a = none := by simpa using e
      simp [this]
  refine ⟨rise_ins ha h.rise, fun x => ?_, fun x => ?_, ?_, fun x hx => ?_, fun x hx => ?_, fun x => ?_, fun p hp => ?_⟩
  · rw [hk, h.keys, hw]
    constructor
    · rintro (rfl | h1)
      · by_cases e : lookP r x = none
        · exact .inl (.inr ⟨rfl, e⟩)
        · have : (lookP r x).isSome = true := by cases e2 : lookP r x with
            | none => exact absurd e2 e
            | some _ => rfl
          rcases (h.keys x).1 this with h2 | h2
          · exact .inl (.inl h2)
          · exact .inr h2
      · rcases h1 with h1 | h1
        · exact .inl (.inl h1)
        · exact .inr h1
    · rintro ((h1 | ⟨rfl, _⟩) | h1)
      · exact .inr (.inl h1)
      · exact .inl rfl
      · exact .inr (.inr h1)
  · rw [hk, h.edge]
    constructor
    · rintro (rfl | ⟨p, hp, e⟩)
      · exact ⟨(x, l), by simp, rfl⟩
      · exact ⟨p, List.mem_append_left _ hp, e⟩
    · rintro ⟨p, hp, e⟩
      rcases List.mem_append.1 hp with hp | hp
      · exact .inr ⟨p, hp, e⟩
      · simp at hp; subst hp; exact .inl e.symm
  · unfold rchW
    by_cases e : (lookP r a).isSome = true
    · rw [if_pos e]; exact h.once
    · rw [if_neg e]
      have hn : a ∉ wait ++ done := fun hm => e ((h.keys a).2 (List.mem_append.1 hm))
      rw [List.append_assoc]
      have : (wait ++ ([a] ++ done)).Perm (a :: (wait ++ done)) := List.perm_middle
      exact this.nodup_iff.2 (List.nodup_cons.2 ⟨hn, h.once⟩)
  · unfold rchR
    rw [look_ins]
    by_cases e : x = a
    · subst e
      rw [if_pos rfl]
      rcases (hw x).1 hx with h1 | ⟨_, h1⟩
      · obtain ⟨b, hb⟩ := h.fresh x h1
        rw [at_some hb]; exact ⟨_, rfl⟩
      · rw [at_none h1]; exact ⟨_, rfl⟩
    · rw [if_neg e]
      rcases (hw x).1 hx with h1 | ⟨h1, _⟩
      · exact h.fresh x h1
      · exact absurd h1 e
  · unfold rchR
    rw [look_ins]
    obtain ⟨b, hb⟩ := h.known x hx
    by_cases e : x = a
    · subst e
      rw [if_pos rfl, at_some hb]; exact ⟨_, rfl⟩
    · rw [if_neg e]; exact ⟨b, hb⟩
  · unfold rchR
    rw [at_ins]
    have hl := h.lead x
    by_cases e : x = a
    · subst e
      rw [if_pos rfl]
      show (((at_ r x).leads || l) = true) ↔ _
      rw [Bool.or_eq_true, hl]
      constructor
      · rintro (h1 | rfl)
        · exact List.mem_append_left _ h1
        · simp
      · intro h1
        rcases List.mem_append.1 h1 with h1 | h1
        · exact .inl h1
        · simp at h1; exact .inr h1
    · rw [if_neg e, hl]
      constructor
      · exact fun h1 => List.mem_append_left _ h1
      · intro h1
        rcases List.mem_append.1 h1 with h1 | h1
        · exact h1
        · simp at h1; exact absurd h1.1 e
  · rcases List.mem_append.1 hp with hp | hp
    · exact h.only p hp
    · simp at hp; subst hp; exact hr
def popR (T : Tx) (r : Plcs) (a : Nat) : Plcs := ins a ⟨(T.err a : Int), T.ends a, (at_ r a).leads⟩ r
theorem Work.pop {T : Tx} {seeds : List Nat} {r : Plcs} {wait done : List Nat} {a : Nat} {E : List (Nat × Bool)} (h : Work T seeds r (wait ++ [a]) done E) : Work T seeds (popR T r a) wait (a :: done) E := by
  have ha : a ∈ wait ++ [a] := by simp
  obtain ⟨b0, hb0⟩ := h.fresh a ha
  have hlt : a < 4294967296 := h.rise.ok _ (mem_look hb0)
  have hk : ∀ x, (lookP (popR T r a) x).isSome = (lookP r x).isSome := fun x => by
    unfold popR; rw [look_ins]
    by_cases e : x = a
    · rw [if_pos e, e, hb0]; rfl
    · rw [if_neg e]
  have ho := h.once
  rw [List.append_assoc] at ho
  refine ⟨rise_ins hlt h.rise, fun x => ?_, fun x => by rw [hk]; exact h.edge x, ho, fun x hx => ?_, fun x hx => ?_, fun x => ?_, h.only⟩
  · rw [hk, h.keys]; simp [or_assoc]
  · have hne : x ≠ a := fun e => by
      subst e
      have h1 := (List.nodup_append.1 ho).2.2 x hx x (by simp)
      exact h1 rfl
    unfold popR
    rw [look_ins, if_neg hne]
    exact h.fresh x (List.mem_append_left _ hx)
  · unfold popR
    rw [look_ins]
    by_cases e : x = a
    · subst e; rw [if_pos rfl]; exact ⟨_, rfl⟩
    · rw [if_neg e]
      exact h.known x ((List.mem_cons.1 hx).resolve_left e)
  · unfold popR
    rw [at_ins]
    by_cases e : x = a
    · subst e; rw [if_pos rfl]; exact h.lead x
    · rw [if_neg e]; exact h.lead x
theorem Work.lt {T : Tx} {seeds : List Nat} {r : Plcs} {wait done : List Nat} {E : List (Nat × Bool)} (h : Work T seeds r wait done E) {a : Nat} (ha : a ∈ wait ∨ a ∈ done) : a < 4294967296 := by
  have := (h.keys a).2 ha
  cases e : lookP r a with
  | none => rw [e] at this; cases this
  | some p => exact h.rise.ok _ (mem_look e)
theorem Work.len {T : Tx} {seeds : List Nat} {r : Plcs} {wait done : List Nat} {E : List (Nat × Bool)} (h : Work T seeds r wait done E) (hT : Fair T) : wait.length + done.length ≤ seeds.length + 2 * T.n := by
  have h1 : (wait ++ done).length ≤ (world T seeds).length := nodup_len h.once (fun a ha => by
    obtain ⟨p, hp, rfl⟩ := (h.edge a).1 ((h.keys a).2 (List.mem_append.1 ha))
    exact reach_world hT.word (h.only p hp))
  have h3 := flat_len (List.range T.n) (fun w => T.suc (T.adr w)) (fun w _ => hT.two _)
  unfold world at h1
  rw [List.length_append, List.length_append] at h1
  rw [List.length_range] at h3
  omega
/-- What reach was called with: the entries, and what stands behind what was looked at. -/
def Edges (T : Tx) (seeds done : List Nat) (E : List (Nat × Bool)) : Prop :=
  ∀ p, p ∈ E ↔ (p.1 ∈ seeds ∧ p.2 = true) ∨ ∃ b ∈ done, T.err b = 0 ∧ p.1 ∈ T.suc b ∧ p.2 = T.ends b
/-- What reached answers. -/
structure Reached (T : Tx) (seeds L : List Nat) (r : Plcs) : Prop where
  closed : Closed T seeds L
  rise : Rise r
  mem : ∀ a, (lookP r a).isSome = true ↔ a ∈ L
  at_ : ∀ a ∈ L, lookP r a = some ⟨(T.err a : Int), T.ends a, leader T seeds L a⟩
theorem Work.end_ {T : Tx} {seeds : List Nat} {r : Plcs} {done : List Nat} {E : List (Nat × Bool)} (h : Work T seeds r [] done E) (hE : Edges T seeds done E) : Reached T seeds done r := by
  have hm : ∀ a, (lookP r a).isSome = true ↔ a ∈ done := fun a => by rw [h.keys]; simp
  refine ⟨⟨fun a ha => ?_, fun b hb h0 a ha => ?_, fun a ha => ?_⟩, h.rise, hm, fun a ha => ?_⟩
  · exact (hm a).1 ((h.edge a).2 ⟨(a, true), (hE (a, true)).2 (.inl ⟨ha, rfl⟩), rfl⟩)
  · exact (hm a).1 ((h.edge a).2 ⟨(a, T.ends b), (hE (a, T.ends b)).2 (.inr ⟨b, hb, h0, ha, rfl⟩), rfl⟩)
  · obtain ⟨p, hp, rfl⟩ := (h.edge a).1 ((hm a).2 ha)
    exact h.only p hp
  · obtain ⟨b, hb⟩ := h.known a ha
    rw [hb]
    have : b = leader T seeds done a := by
      have hl := h.lead a
      rw [at_some hb] at hl
      rw [Bool.eq_iff_iff]
      refine hl.trans ((hE (a, true)).trans ?_)
      unfold leader
      rw [Bool.or_eq_true, List.contains_iff_mem, List.any_eq_true]
      constructor
      · rintro (⟨h1, _⟩ | ⟨c, hc, h0, h1, h2⟩)
        · exact .inl h1
        · refine .inr ⟨c, hc, ?_⟩
          rw [List.contains_iff_mem.2 h1, ← h2]
          simp [h0]
      · rintro (h1 | ⟨c, hc, h1⟩)
        · exact .inl ⟨h1, rfl⟩
        · simp only [Bool.and_eq_true, decide_eq_true_eq, List.contains_iff_mem] at h1
          exact .inr ⟨c, hc, h1.1.1, h1.2, h1.1.2.symm⟩
    rw [this]
end Bl
end Go.Proofs.YtcffpmicencfpabGreat
