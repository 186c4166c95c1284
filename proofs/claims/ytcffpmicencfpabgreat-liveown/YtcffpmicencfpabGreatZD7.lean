/-
  BlocksWhole's plain facts: what blocks that are found hold; the statements' own helper among.
-/

import Derived.Test.YtcffpmicencfpabGreatZD1
import Derived.Test.YtcffpmicencfpabGreatZD6
namespace Go.Proofs.YtcffpmicencfpabGreat
open Go.RowKit Go.Lib Go.Sort Go.Maps Ip Bl Pm
set_option linter.unusedSimpArgs false
set_option linter.unusedVariables false

/-- What a text's blocks hold. -/
structure Whole (i : Img) (l : List (Nat × Nat)) : Prop where
  ent : i.entry.toNat ∈ l.map Prod.fst
  small : ∀ b ∈ l, 1 ≤ b.2 ∧ b.2 ≤ i.words.length ∧ b.1 + 4 * b.2 ≤ 4294967296
  rise : ∀ (k : Nat) (b c : Nat × Nat), l[k]? = some b → l[k + 1]? = some c → b.1 + 4 * b.2 ≤ c.1
  good : ∀ b ∈ l, ∀ j, j < b.2 → errA i (b.1 + 4 * j) = 0
  run : ∀ b ∈ l, ∀ j, j + 1 < b.2 → endsI (insA i (b.1 + 4 * j)) = false
  beh : ∀ b ∈ l, ∀ a ∈ aftI (insA i (b.1 + 4 * (b.2 - 1))) (b.1 + 4 * (b.2 - 1)), a ∈ l.map Prod.fst
theorem adr_txI (i : Img) (w : Nat) : (txI i).adr w = i.base.toNat + 4 * w := rfl
theorem adr_plus (T : Tx) (v w : Nat) : T.adr v + 4 * w = T.adr (v + w) := by unfold Tx.adr; omega
theorem whole_of {i : Img} {es : List Nat} {l : List (Nat × Nat)} (hi : i.ok) (h : AnsF (txI i) (seedsI i es) 0 l) : Whole i l := by
  obtain ⟨L, hc, h0, hl⟩ := h
  rw [if_pos rfl] at hl
  have hz := errL_zero h0.symm
  have hT := txI_fair hi
  obtain ⟨ht, -⟩ := tiles (txI i) (seedsI i es) L (txI i).n
  have hmem : ∀ b ∈ l, ∃ c ∈ blks (txI i) (seedsI i es) L (txI i).n, b = ((txI i).adr c.1, c.2) := fun b hb => by
    rw [hl] at hb
    obtain ⟨c, hc, rfl⟩ := List.mem_map.1 hb
    exact ⟨c, hc, rfl⟩
  have hin : ∀ c ∈ blks (txI i) (seedsI i es) L (txI i).n, (txI i).adr c.1 ∈ l.map Prod.fst := fun c hc => by
    rw [hl]
    exact List.mem_map.2 ⟨_, List.mem_map.2 ⟨c, hc, rfl⟩, rfl⟩
  have htop := hT.top
  refine ⟨?_, fun b hb => ?_, fun k b c hb hc2 => ?_, fun b hb j hj => ?_, fun b hb j hj => ?_, fun b hb a ha => ?_⟩
  · have hs : i.entry.toNat ∈ seedsI i es := List.mem_cons_self
    have hm := hc.seed _ hs
    obtain ⟨w, hw, e⟩ := hT.word _ (hz _ hm)
    rw [e] at hm hs ⊢
    obtain ⟨b, hb, rfl⟩ := block_at ht hw hm (leader_begins (leader_seed hs))
    exact hin b hb
  · obtain ⟨c, hc, rfl⟩ := hmem b hb
    have hp := ht.pos c hc
    have e1 := adr_txI i c.1
    have e2 : (txI i).n = i.words.length := rfl
    have e3 : (txI i).base = i.base.toNat := rfl
    simp only
    omega
  · rw [hl] at hb hc2
    unfold adrL at hb hc2
    rw [List.getElem?_map] at hb hc2
    obtain ⟨b', hb', rfl⟩ := Option.map_eq_some_iff.1 hb
    obtain ⟨c', hc', rfl⟩ := Option.map_eq_some_iff.1 hc2
    obtain ⟨h1, h2⟩ := List.getElem?_eq_some_iff.1 hb'
    obtain ⟨h3, h4⟩ := List.getElem?_eq_some_iff.1 hc'
    have hr := (List.pairwise_iff_getElem.1 ht.rise) k (k + 1) h1 h3 (Nat.lt_succ_self k)
    rw [h2, h4] at hr
    have e1 := adr_txI i b'.1
    have e2 := adr_txI i c'.1
    simp only
    omega
  · obtain ⟨c, hc, rfl⟩ := hmem b hb
    have := hz _ (ht.in_ c hc j hj)
    rw [← adr_plus] at this
    exact this
  · obtain ⟨c, hc, rfl⟩ := hmem b hb
    have hr := ht.rest c hc (j + 1) (Nat.succ_pos j) hj
    rw [show c.1 + (j + 1) = (c.1 + j) + 1 from rfl] at hr
    have h2 := (inner hr).2.1
    rw [← adr_plus] at h2
    exact h2
  · obtain ⟨c, hc2, rfl⟩ := hmem b hb
    simp only at ha
    rw [adr_plus] at ha
    obtain ⟨d, hd, rfl⟩ := behind hT hc hz hc2 (a := a) ha
    exact hin d hd
theorem none_of {T : Tx} {seeds : List Nat} {e : Nat} {l : List (Nat × Nat)} (h : AnsF T seeds e l) (he : e ≠ 0) : l = [] := by
  obtain ⟨L, _, _, rfl⟩ := h
  rw [if_neg he]
end Go.Proofs.YtcffpmicencfpabGreat
