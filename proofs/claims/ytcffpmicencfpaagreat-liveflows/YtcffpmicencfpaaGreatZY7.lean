/-
  Blocks found are found again from where they begin. No program in sight.
  What layers above the blocks need of their answers.
-/

import Derived.Test.YtcffpmicencfpaaGreatZD7
import Derived.Test.YtcffpmicencfpaaGreatZY2
set_option linter.unusedVariables false
namespace Go.Proofs.YtcffpmicencfpaaGreat
namespace Lv
open Bl Ip Pm

theorem begins_split {T : Tx} {seeds L : List Nat} {w : Nat} (h : begins T seeds L w = true) : (decide (w = 0) || !L.contains (T.adr (w - 1)) || T.ends (T.adr (w - 1))) = true ∨ leader T seeds L (T.adr w) = true := by
  unfold begins at h
  rw [Bool.or_eq_true] at h
  exact h
theorem begins_join {T : Tx} {seeds L : List Nat} {w : Nat} (h : (decide (w = 0) || !L.contains (T.adr (w - 1)) || T.ends (T.adr (w - 1))) = true) : begins T seeds L w = true := by
  unfold begins
  rw [h]; rfl
theorem find_again {i : Img} {es : List Nat} {l : List (Nat × Nat)} (hi : i.ok) (h : AnsF (txI i) (seedsI i es) 0 l) : rightP i l := by
  obtain ⟨L, hc, h0, hl⟩ := h
  rw [if_pos rfl] at hl
  have hz := errL_zero h0.symm
  have hT := txI_fair hi
  obtain ⟨ht, -⟩ := tiles (txI i) (seedsI i es) L (txI i).n
  have c1 : ∀ w, w < (txI i).n → (txI i).adr w ∈ L → begins (txI i) (seedsI i es) L w = true → (txI i).adr w ∈ l.map Prod.fst := fun w hw hm hb => by
    obtain ⟨b, hb2, rfl⟩ := block_at ht hw hm hb
    rw [hl]
    exact List.mem_map.2 ⟨_, List.mem_map.2 ⟨b, hb2, rfl⟩, rfl⟩
  have c2 : ∀ a ∈ l.map Prod.fst, ∃ w, w < (txI i).n ∧ a = (txI i).adr w ∧ begins (txI i) (seedsI i es) L w = true ∧ a ∈ L := fun a ha => by
    rw [hl] at ha
    obtain ⟨c, hc2, rfl⟩ := List.mem_map.1 ha
    obtain ⟨b, hb, rfl⟩ := List.mem_map.1 hc2
    have hp := ht.pos b hb
    refine ⟨b.1, by omega, rfl, ht.first b hb, ?_⟩
    have := ht.in_ b hb 0 (by omega)
    exact this
  have c3 : ∀ a ∈ seedsI i es, a ∈ l.map Prod.fst := fun a ha => by
    have hm := hc.seed a ha
    obtain ⟨w, hw, rfl⟩ := hT.word a (hz a hm)
    exact c1 w hw hm (leader_begins (leader_seed ha))
  have hent : i.entry.toNat ∈ seedsI i es := List.mem_cons_self
  have hs' : ∀ a, a ∈ seedsI i (l.map Prod.fst) ↔ a ∈ l.map Prod.fst := fun a => by
    unfold seedsI
    rw [List.mem_cons]
    exact ⟨fun h => h.elim (fun e => by rw [e]; exact c3 _ hent) id, .inr⟩
  have hc' : Closed (txI i) (seedsI i (l.map Prod.fst)) L := by
    refine ⟨fun a ha => ?_, hc.step, fun a ha => ?_⟩
    · obtain ⟨w, _, _, _, hm⟩ := c2 a ((hs' a).1 ha)
      exact hm
    · exact reach_least (P := Bl.Reach (txI i) (seedsI i (l.map Prod.fst))) (fun b hb => reach_seed ((hs' b).2 (c3 b hb))) (fun b hb he c hcc => reach_step hb he hcc) (hc.only a ha)
  have hb : ∀ w, w < (txI i).n → (txI i).adr w ∈ L → begins (txI i) (seedsI i (l.map Prod.fst)) L w = begins (txI i) (seedsI i es) L w := fun w hw hm => by
    rw [Bool.eq_iff_iff]
    constructor
    · intro hb
      rcases begins_split hb with h | h
      · exact begins_join h
      · unfold leader at h
        rw [Bool.or_eq_true, List.contains_iff_mem] at h
        rcases h with h | h
        · obtain ⟨w', _, e, hb', _⟩ := c2 _ ((hs' _).1 h)
          rw [adr_inj e]; exact hb'
        · refine leader_begins ?_
          unfold leader
          rw [h, Bool.or_true]
    · intro hb
      exact leader_begins (leader_seed ((hs' _).2 (c1 w hw hm hb)))
  have hbl : ∀ w, w ≤ (txI i).n → blks (txI i) (seedsI i (l.map Prod.fst)) L w = blks (txI i) (seedsI i es) L w := fun w => by
    induction w with
    | zero => intro _; rfl
    | succ w ih =>
      intro hw
      rw [blks, blks, ih (by omega)]
      by_cases hm : L.contains ((txI i).adr w) = true
      · rw [if_pos hm, if_pos hm, hb w (by omega) (List.contains_iff_mem.1 hm)]
      · rw [if_neg hm, if_neg hm]
  exact ⟨L, hc', h0, by rw [if_pos rfl, hbl _ (Nat.le_refl _)]; exact hl⟩
end Lv
end Go.Proofs.YtcffpmicencfpaaGreat
namespace Go.Proofs.YtcffpmicencfpaaGreat
open Go.RowKit Go.Lib Go.Sort Go.Maps Ip Bl Pm
set_option linter.unusedSimpArgs false
set_option linter.unusedVariables false

theorem ownU_words {W : World} {B : Nat} {v : Value} {n : Nat} {xs : List Value} {l : List Nat} (h : W.ownsRow B 22 1 v n xs) (m : Nat) (hn : n = m) (hx : xs = l.map wordV) : W.ownsRow B 22 1 v m (l.map wordV) := by
  subst hn hx; exact h
theorem slwU_own {W : World} {B : Nat} {v : Value} {n : Nat} {l : List Nat} (h : W.ownsRow B 22 1 v n (l.map wordV)) (hn : l.length = n) : SlW W v l := by
  subst hn; exact slw_of_owns h
theorem ownU_below {W W' : World} {B : Nat} {t : TypeId} {s : Nat} {p : Option Addr} {m c n : Nat} {xs : List Value} (h : W.ownsRow B t s (.slice p m c) n xs) (hb : Below W.heap.size W W') : W'.ownsRow B t s (.slice p m c) n xs :=
  h.kept (grown_of_below hb) (by cases p <;> simp [Value.ownBlock])
theorem ownU_lo {W : World} {B : Nat} {t : TypeId} {s : Nat} {v : Value} {n : Nat} {xs : List Value} (h : W.ownsRow B t s v n xs) : ∀ k, v.ownBlock = some k → B ≤ k := fun k e => (h.lt k e).1
theorem fitU_of {i : Img} {es : List Nat} {l : List (Nat × Nat)} (hi : i.ok) (h : AnsF (txI i) (seedsI i es) 0 l) : FitB l := by
  have hw := whole_of hi h
  have hf := (AnsF.few h).1
  have hn : (txI i).n = i.words.length := rfl
  have h1 := hi.2.2.1
  refine ⟨?_, fun b hb => by have := hw.small b hb; omega, fun b hb => by have := hw.small b hb; omega, by omega⟩
  obtain ⟨L, hc, h0, hl⟩ := h
  rw [if_pos rfl] at hl
  obtain ⟨ht, -⟩ := tiles (txI i) (seedsI i es) L (txI i).n
  rw [hl]
  unfold RiseB adrL
  rw [List.pairwise_map]
  refine ht.rise.imp_of_mem fun {a b} ha hb hr => ?_
  have := (ht.pos a ha).1
  show (txI i).adr a.1 < (txI i).adr b.1
  unfold Tx.adr
  omega
theorem leU_of_nxt (i : Img) (l : List (Nat × Nat)) (k : Int) (h : FitB l) : (nextV i l k).1.length ≤ 4000000 := by
  have h1 := h.len
  unfold nextV
  split
  · show (nxtL l _).length ≤ _
    unfold nxtL
    have := List.length_filter_le (fun j => (aftI (insA i (lastA (l.getD k.toNat (0, 0)))) (lastA (l.getD k.toNat (0, 0)))).contains (l.getD j (0, 0)).1) (List.range l.length)
    rw [List.length_range] at this
    omega
  · simp
end Go.Proofs.YtcffpmicencfpaaGreat
