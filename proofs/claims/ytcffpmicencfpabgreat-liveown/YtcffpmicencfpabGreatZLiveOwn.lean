/-
  LiveOwn: a text of one block that goes round counts what it needs ahead of setting it, and no more.
  The walk of LiveOwn.
  LiveOwn's text: a sum and a jump back to it. No program in sight.
  Texts of plain instructions and an end: their blocks. No program in sight.
-/
import Derived.Test.YtcffpmicencfpabGreatRows
import Derived.WalkKit
import Derived.ProofKit
import Derived.OpenShut
import Derived.Carry
import Derived.ChangeMaps
import Derived.Test.YtcffpmicencfpabGreatZC1
import Derived.Test.YtcffpmicencfpabGreatZC6
import Derived.Test.YtcffpmicencfpabGreatZC7
import Derived.Test.YtcffpmicencfpabGreatZD3
import Derived.Test.YtcffpmicencfpabGreatZX6
import Derived.Test.YtcffpmicencfpabGreatZY2
import Derived.Test.YtcffpmicencfpabGreatZY5
import Derived.Test.YtcffpmicencfpabGreatZY8
import Derived.Test.YtcffpmicencfpabGreatZa
set_option linter.unusedVariables false
namespace Go.Proofs.YtcffpmicencfpabGreat
namespace Bl
open Pm Ip

/-- A text of k plain instructions and an end behind them. -/
structure Line (T : Tx) (k : Nat) : Prop where
  n : T.n = k + 1
  err : ∀ j, j ≤ k → T.err (T.adr j) = 0
  step : ∀ j, j < k → T.suc (T.adr j) = [T.adr (j + 1)]
  stop : T.suc (T.adr k) = []
  plain : ∀ j, j < k → T.ends (T.adr j) = false
def allA (T : Tx) (k : Nat) : List Nat := (List.range (k + 1)).map T.adr
theorem mem_allA {T : Tx} {k a : Nat} : a ∈ allA T k ↔ ∃ j, j ≤ k ∧ a = T.adr j := by
  unfold allA
  rw [List.mem_map]
  constructor
  · rintro ⟨j, hj, rfl⟩; exact ⟨j, by have := List.mem_range.1 hj; omega, rfl⟩
  · rintro ⟨j, hj, rfl⟩; exact ⟨j, List.mem_range.2 (by omega), rfl⟩
theorem line_closed {T : Tx} {k : Nat} (h : Line T k) {seeds : List Nat} (h0 : T.adr 0 ∈ seeds) (hs : ∀ a ∈ seeds, ∃ j, j ≤ k ∧ a = T.adr j) : Closed T seeds (allA T k) := by
  refine ⟨fun a ha => mem_allA.2 (hs a ha), fun b hb he a ha => ?_, fun a ha => ?_⟩
  · obtain ⟨j, hj, rfl⟩ := mem_allA.1 hb
    by_cases e : j = k
    · subst e; rw [h.stop] at ha; simp at ha
    · rw [h.step j (by omega)] at ha
      simp at ha
      exact mem_allA.2 ⟨j + 1, by omega, ha⟩
  · obtain ⟨j, hj, rfl⟩ := mem_allA.1 ha
    clear ha
    induction j with
    | zero => exact reach_seed h0
    | succ j ih => exact reach_step (ih (by omega)) (h.err j (by omega)) (by rw [h.step j (by omega)]; simp)
theorem line_err {T : Tx} {k : Nat} (h : Line T k) : errL T.err (allA T k) = 0 := by
  rcases errL_holds T.err (allA T k) with ⟨h1, _⟩ | ⟨h1, h2, h3, _⟩
  · exact h1
  · obtain ⟨j, hj, e⟩ := mem_allA.1 h2
    rw [e, h.err j hj] at h3
    exact absurd h3.symm h1
theorem line_leader {T : Tx} {k : Nat} (h : Line T k) (seeds : List Nat) (a : Nat) : leader T seeds (allA T k) a = seeds.contains a := by
  unfold leader
  have e : ((allA T k).any fun b => decide (T.err b = 0) && T.ends b && (T.suc b).contains a) = false := by
    rw [List.any_eq_false]
    intro b hb
    obtain ⟨j, hj, rfl⟩ := mem_allA.1 hb
    by_cases e : j = k
    · subst e; rw [h.stop]; simp
    · rw [h.plain j (by omega)]; simp
  rw [e, Bool.or_false]
theorem line_in {T : Tx} {k j : Nat} (hj : j ≤ k) : (allA T k).contains (T.adr j) = true := List.contains_iff_mem.2 (mem_allA.2 ⟨j, hj, rfl⟩)
theorem line_begins {T : Tx} {k w : Nat} (h : Line T k) (seeds : List Nat) (hw : w < k) : begins T seeds (allA T k) (w + 1) = seeds.contains (T.adr (w + 1)) := by
  unfold begins
  rw [Nat.add_sub_cancel, decide_eq_false (Nat.succ_ne_zero w), line_in (by omega), h.plain w hw, line_leader h]
  rfl
theorem line_one {T : Tx} {k : Nat} (h : Line T k) {seeds : List Nat} (hs : ∀ a, a ∈ seeds ↔ a = T.adr 0) : AnsF T seeds 0 [(T.adr 0, k + 1)] := by
  have hb : ∀ w, w ≤ k → blks T seeds (allA T k) (w + 1) = [(0, w + 1)] := by
    intro w hw
    induction w with
    | zero => rw [blks, if_pos (line_in (Nat.zero_le _)), if_pos (by unfold begins; rfl)]; rfl
    | succ w ih =>
      have e : ¬ begins T seeds (allA T k) (w + 1) = true := by
        rw [line_begins h _ (by omega), List.contains_iff_mem, hs]
        unfold Tx.adr; omega
      rw [blks, if_pos (line_in hw), if_neg e, ih (by omega)]; rfl
  refine ⟨allA T k, line_closed h ((hs _).2 rfl) (fun a ha => ⟨0, Nat.zero_le _, (hs a).1 ha⟩), (line_err h).symm, ?_⟩
  rw [if_pos rfl, h.n, hb k (Nat.le_refl _)]; rfl
theorem line_two {T : Tx} {k c : Nat} (h : Line T k) {seeds : List Nat} (hc0 : 0 < c) (hc : c ≤ k) (hs : ∀ a, a ∈ seeds ↔ a = T.adr 0 ∨ a = T.adr c) : AnsF T seeds 0 [(T.adr 0, c), (T.adr c, k + 1 - c)] := by
  have hb : ∀ w, w ≤ k → blks T seeds (allA T k) (w + 1) = if w < c then [(0, w + 1)] else [(0, c), (c, w + 1 - c)] := by
    intro w hw
    induction w with
    | zero => rw [blks, if_pos (line_in (Nat.zero_le _)), if_pos (by unfold begins; rfl), if_pos hc0]; rfl
    | succ w ih =>
      have ih := ih (by omega)
      rw [blks, if_pos (line_in hw)]
      by_cases e : w + 1 = c
      · have eb : begins T seeds (allA T k) (w + 1) = true := by
          rw [line_begins h _ (by omega), List.contains_iff_mem, hs, e]; exact .inr rfl
        rw [if_pos eb, ih, if_pos (by omega), if_neg (by omega), ← e]
        rw [show w + 1 + 1 - (w + 1) = 1 by omega]; rfl
      · have eb : ¬ begins T seeds (allA T k) (w + 1) = true := by
          rw [line_begins h _ (by omega), List.contains_iff_mem, hs]
          unfold Tx.adr; omega
        rw [if_neg eb, ih]
        by_cases e2 : w < c
        · rw [if_pos e2, if_pos (by omega)]; rfl
        · rw [if_neg e2, if_neg (by omega), show w + 1 + 1 - c = (w + 1 - c) + 1 by omega]; rfl
  refine ⟨allA T k, line_closed h ((hs _).2 (.inl rfl)) (fun a ha => ?_), (line_err h).symm, ?_⟩
  · rcases (hs a).1 ha with e | e
    · exact ⟨0, Nat.zero_le _, e⟩
    · exact ⟨c, hc, e⟩
  · rw [if_pos rfl, h.n, hb k (Nat.le_refl _), if_neg (by omega)]; rfl

/-- The law's text: k words that do nothing, and an end. -/
def lineW (k : Nat) : List Nat := List.replicate k 19 ++ [1048691]
def lineI (k : Nat) : Img := ⟨(BitVec.ofNat 32 8192), (BitVec.ofNat 32 8192), lineW k, 0⟩
theorem lineW_len (k : Nat) : (lineW k).length = k + 1 := by unfold lineW; simp
theorem lineI_ok {k : Nat} (hk : k ≤ 30) : (lineI k).ok := by
  refine ⟨show ((BitVec.ofNat 32 8192)).toNat % 4 = 0 by decide, ?_, ?_, fun n hn => ?_⟩
  · show ((BitVec.ofNat 32 8192)).toNat + 4 * (lineW k).length ≤ _; rw [lineW_len]; show 8192 + 4 * (k + 1) ≤ _; omega
  · show (lineW k).length ≤ _; rw [lineW_len]; omega
  · rcases List.mem_append.1 (show n ∈ List.replicate k 19 ++ [1048691] from hn) with h | h
    · rw [(List.mem_replicate.1 h).2]; decide
    · simp at h; subst h; decide
theorem word_at {i : Img} (hi : i.ok) {w n : Nat} (h : i.words[w]? = some n) : insA i ((txI i).adr w) = insW (adrB n) ∧ errA i ((txI i).adr w) = errW (adrB n) := by
  have hw := (List.getElem?_eq_some_iff.1 h).1
  have hh := adr_hit hi hw
  have ha : (txI i).adr w < 4294967296 := (hit_word hi hh).1
  have hH : Hit i (adrB ((txI i).adr w)) w := by
    have h1 := hi.1
    have hb := adrB_nat ha
    unfold Hit
    rw [hb]
    show (((i.base.toNat + 4 * w : Nat)) : Int) % 4 = 0 ∧ ((i.base.toNat + 4 * w : Nat) : Int) = _
    omega
  have hv := (hit_yes hi hH h).2
  have hwA : wordA i ((txI i).adr w) = adrB n := by unfold wordA; rw [hv]
  unfold insA errA
  rw [if_pos (show hitA i ((txI i).adr w) = true from hh), if_pos (show hitA i ((txI i).adr w) = true from hh), hwA]
  exact ⟨rfl, rfl⟩
set_option maxRecDepth 100000 in
theorem nop_ins : insW (adrB 19) = ⟨18, 0, 0, 0, 0⟩ := by kernel_rfl
set_option maxRecDepth 100000 in
theorem nop_err : errW (adrB 19) = 0 := by kernel_rfl
set_option maxRecDepth 100000 in
theorem end_ins : insW (adrB 1048691) = ⟨46, 0, 0, 0, 0⟩ := by kernel_rfl
set_option maxRecDepth 100000 in
theorem end_err : errW (adrB 1048691) = 0 := by kernel_rfl
theorem end_aft (a : Nat) : aftI ⟨46, 0, 0, 0, 0⟩ a = [] := by unfold aftI aft; rw [if_pos (.inr rfl)]
theorem nop_ends : endsI ⟨18, 0, 0, 0, 0⟩ = false := by decide
theorem line_of {k : Nat} (hk : k ≤ 30) : Line (txI (lineI k)) k := by
  have hok := lineI_ok hk
  have hn : ∀ j, j < k → (lineI k).words[j]? = some 19 := fun j hj => by
    show (List.replicate k 19 ++ [1048691])[j]? = _
    rw [List.getElem?_append_left (by simpa using hj)]
    simp [hj]
  have he : (lineI k).words[k]? = some 1048691 := by
    show (List.replicate k 19 ++ [1048691])[k]? = _
    rw [List.getElem?_append_right (by simp)]; simp
  have hen : ∀ j, j < k → (txI (lineI k)).ends ((txI (lineI k)).adr j) = false := fun j hj => by
    show endsI (insA (lineI k) ((txI (lineI k)).adr j)) = false
    rw [(word_at hok (hn j hj)).1, nop_ins]; exact nop_ends
  have her : ∀ j, j ≤ k → (txI (lineI k)).err ((txI (lineI k)).adr j) = 0 := fun j hj => by
    show errA (lineI k) ((txI (lineI k)).adr j) = 0
    by_cases e : j = k
    · subst e; rw [(word_at hok he).2]; exact end_err
    · rw [(word_at hok (hn j (by omega))).2]; exact nop_err
  refine ⟨lineW_len k, her, fun j hj => ?_, ?_, hen⟩
  · rw [(txI_fair hok).plain _ (her j (by omega)) (hen j hj)]
    have hb : (txI (lineI k)).base = 8192 := rfl
    unfold Tx.adr
    rw [hb]
    congr 1
    omega
  · show aftI (insA (lineI k) ((txI (lineI k)).adr k)) ((txI (lineI k)).adr k) = []
    rw [(word_at hok he).1, end_ins]; exact end_aft _
/-- What Find answers of such a text. -/
theorem alone_one {k e : Nat} {l : List (Nat × Nat)} {es : List Nat} (hk : k ≤ 30) (hes : ∀ a ∈ es, a = 8192) (h : AnsF (txI (lineI k)) (seedsI (lineI k) es) e l) : e = 0 ∧ l = [(8192, k + 1)] := by
  have h1 := line_one (line_of hk) (seeds := [8192]) (fun a => by rw [List.mem_singleton]; rfl)
  have := h.same h1 (fun a => by
    unfold seedsI
    rw [List.mem_singleton, List.mem_cons]
    constructor
    · rintro (e | e)
      · exact e
      · exact hes a e
    · exact fun e => .inl e)
  exact this
theorem alone_two {k c e : Nat} {l : List (Nat × Nat)} (hk : k ≤ 30) (hc0 : 0 < c) (hc : c ≤ k) (h : AnsF (txI (lineI k)) (seedsI (lineI k) [8192 + 4 * c]) e l) : e = 0 ∧ l = [(8192, c), (8192 + 4 * c, k + 1 - c)] := by
  have h1 := line_two (line_of hk) (c := c) (seeds := [8192, 8192 + 4 * c]) hc0 hc (fun a => by simp only [List.mem_cons, List.not_mem_nil, or_false]; exact Iff.rfl)
  have := h.same h1 (fun a => Iff.rfl)
  exact this
end Bl
end Go.Proofs.YtcffpmicencfpabGreat
set_option linter.unusedVariables false
namespace Go.Proofs.YtcffpmicencfpabGreat
namespace Lv
open Bl Ip Pm

def ownW (a b : Nat) : Nat := b * 1048576 + a * 128 + 51
def fiveB (x : Ins) (a b : Nat) : Bool := decide (x.op = 27) && decide (x.rd = (a : Int)) && decide (x.rs1 = 0) && decide (x.rs2 = (b : Int)) && decide (x.imm = 0)
set_option maxRecDepth 100000 in
theorem own_all : ∀ a : Nat, a < 32 → ∀ b : Nat, b < 32 → (fiveB (insW (adrB (ownW a b))) a b && decide (errW (adrB (ownW a b)) = 0)) = true := by decide +kernel
theorem own_ins {a b : Nat} (ha : a < 32) (hb : b < 32) : insW (adrB (ownW a b)) = ⟨27, a, 0, b, 0⟩ ∧ errW (adrB (ownW a b)) = 0 := by
  have h := own_all a ha b hb
  rw [Bool.and_eq_true] at h
  have h1 := h.1
  unfold fiveB at h1
  simp only [Bool.and_eq_true, decide_eq_true_eq] at h1
  refine ⟨?_, of_decide_eq_true h.2⟩
  generalize insW (adrB (ownW a b)) = x at h1
  obtain ⟨op, rd, rs1, rs2, imm⟩ := x
  simp only at h1
  obtain ⟨⟨⟨⟨rfl, rfl⟩, rfl⟩, rfl⟩, rfl⟩ := h1
  rfl
set_option maxRecDepth 100000 in
theorem jal_ins : insW (adrB 4292866159) = ⟨2, 0, 0, 0, -4⟩ := by kernel_rfl
set_option maxRecDepth 100000 in
theorem jal_err : errW (adrB 4292866159) = 0 := by kernel_rfl
def ownI (a b : Nat) : Img := ⟨(BitVec.ofNat 32 4096), (BitVec.ofNat 32 4096), [ownW a b, 4292866159], 0⟩
theorem ownI_ok {a b : Nat} (ha : a < 32) (hb : b < 32) : (ownI a b).ok := by
  refine ⟨show ((BitVec.ofNat 32 4096)).toNat % 4 = 0 by decide, show ((BitVec.ofNat 32 4096)).toNat + 4 * 2 ≤ 4294967296 by decide, show 2 ≤ 1000000 by decide, fun n hn => ?_⟩
  rcases List.mem_cons.1 (show n ∈ [ownW a b, 4292866159] from hn) with rfl | h
  · unfold ownW; omega
  · simp at h; subst h; decide
theorem own_0 {a b : Nat} (ha : a < 32) (hb : b < 32) : insA (ownI a b) 4096 = ⟨27, a, 0, b, 0⟩ ∧ errA (ownI a b) 4096 = 0 := by
  have h := word_at (ownI_ok ha hb) (w := 0) (n := ownW a b) rfl
  have hi := own_ins ha hb
  exact ⟨h.1.trans hi.1, h.2.trans hi.2⟩
theorem own_1 {a b : Nat} (ha : a < 32) (hb : b < 32) : insA (ownI a b) 4100 = ⟨2, 0, 0, 0, -4⟩ ∧ errA (ownI a b) 4100 = 0 := by
  have h := word_at (ownI_ok ha hb) (w := 1) (n := 4292866159) rfl
  exact ⟨h.1.trans jal_ins, h.2.trans jal_err⟩
theorem own_right {a b : Nat} (ha : a < 32) (hb : b < 32) : rightI ⟨27, a, 0, b, 0⟩ = true := by
  have h : ∀ a : Nat, a < 32 → ∀ b : Nat, b < 32 → rightI ⟨27, (a : Int), 0, (b : Int), 0⟩ = true := by decide +kernel
  exact h a ha b hb
theorem own_ends {a b : Nat} (ha : a < 32) (hb : b < 32) : endsI ⟨27, a, 0, b, 0⟩ = false := by
  have h : ∀ a : Nat, a < 32 → ∀ b : Nat, b < 32 → endsI ⟨27, (a : Int), 0, (b : Int), 0⟩ = false := by decide +kernel
  exact h a ha b hb
theorem own_suc {a b : Nat} (ha : a < 32) (hb : b < 32) : (txI (ownI a b)).suc 4096 = [4100] ∧ (txI (ownI a b)).suc 4100 = [4096] ∧ (txI (ownI a b)).ends 4096 = false ∧ (txI (ownI a b)).ends 4100 = true := by
  have h0 := own_0 ha hb
  have h1 := own_1 ha hb
  have he : (txI (ownI a b)).ends 4096 = false := by show endsI (insA (ownI a b) 4096) = false; rw [h0.1]; exact own_ends ha hb
  refine ⟨?_, ?_, he, ?_⟩
  · exact (txI_fair (ownI_ok ha hb)).plain 4096 h0.2 he
  · show aftI (insA (ownI a b) 4100) 4100 = _; rw [h1.1]; decide
  · show endsI (insA (ownI a b) 4100) = _; rw [h1.1]; decide
theorem own_closed {a b : Nat} (ha : a < 32) (hb : b < 32) {seeds : List Nat} (hs : ∀ x, x ∈ seeds ↔ x = 4096) : Closed (txI (ownI a b)) seeds [4096, 4100] := by
  obtain ⟨s0, s1, _, _⟩ := own_suc ha hb
  have r0 : Bl.Reach (txI (ownI a b)) seeds 4096 := reach_seed ((hs _).2 rfl)
  refine ⟨fun x hx => by rw [(hs x).1 hx]; simp, fun c hc h0 x hx => ?_, fun x hx => ?_⟩
  · simp only [List.mem_cons, List.not_mem_nil, or_false] at hc
    rcases hc with rfl | rfl
    · rw [s0] at hx; simp at hx ⊢; omega
    · rw [s1] at hx; simp at hx ⊢; omega
  · simp only [List.mem_cons, List.not_mem_nil, or_false] at hx
    rcases hx with rfl | rfl
    · exact r0
    · exact reach_step r0 (own_0 ha hb).2 (by rw [s0]; simp)
theorem own_ans {a b : Nat} (ha : a < 32) (hb : b < 32) {seeds : List Nat} (hs : ∀ x, x ∈ seeds ↔ x = 4096) : AnsF (txI (ownI a b)) seeds 0 [(4096, 2)] := by
  obtain ⟨s0, s1, n0, n1⟩ := own_suc ha hb
  have e0 : (txI (ownI a b)).err 4096 = 0 := (own_0 ha hb).2
  have e1 : (txI (ownI a b)).err 4100 = 0 := (own_1 ha hb).2
  refine ⟨_, own_closed ha hb hs, ?_, ?_⟩
  · simp [errL, foldE, e0, e1]
  · rw [if_pos rfl]
    have a0 : (txI (ownI a b)).adr 0 = 4096 := rfl
    have a1 : (txI (ownI a b)).adr 1 = 4100 := rfl
    have d0 : begins (txI (ownI a b)) seeds [4096, 4100] 0 = true := begins_zero
    have hno : seeds.contains 4100 = false := by
      cases h : seeds.contains 4100 with
      | false => rfl
      | true => exact absurd ((hs _).1 (List.contains_iff_mem.1 h)) (by decide)
    have d1 : begins (txI (ownI a b)) seeds [4096, 4100] 1 = false := by
      unfold begins leader
      rw [a0, a1, n0, hno]
      simp [n0, n1, s1]
    have hn : (txI (ownI a b)).n = 2 := rfl
    rw [hn]
    simp only [blks, a0, a1, d0, d1]
    simp [adrL, a0, bump]
theorem own_rightP {a b : Nat} (ha : a < 32) (hb : b < 32) : rightP (ownI a b) [(4096, 2)] := own_ans ha hb (fun x => by simp [seedsI, ownI])
theorem own_code {a b : Nat} (ha : a < 32) (hb : b < 32) : codeI (ownI a b) (4096, 2) = [⟨27, a, 0, b, 0⟩, ⟨2, 0, 0, 0, -4⟩] := by
  unfold codeI
  show [insA (ownI a b) 4096, insA (ownI a b) 4100] = _
  rw [(own_0 ha hb).1, (own_1 ha hb).1]
theorem own_next {a b : Nat} (ha : a < 32) (hb : b < 32) : nextV (ownI a b) [(4096, 2)] 0 = ([0], false) := by
  have hl : lastA (([(4096, 2)] : List (Nat × Nat)).getD (0 : Int).toNat (0, 0)) = 4100 := by decide
  unfold nextV
  rw [hl, (own_1 ha hb).1, if_pos ⟨by decide, by decide, (own_1 ha hb).2⟩]
  have h : aftI ⟨2, 0, 0, 0, -4⟩ 4100 = [4096] := by decide
  rw [h]
  decide
theorem own_step {a b : Nat} (ha : a < 32) (hb : b < 32) (n : BitVec 32) : backB [⟨27, (a : Int), 0, (b : Int), 0⟩, ⟨2, 0, 0, 0, -4⟩] n = (evenB n &&& ~~~ oneB a) ||| oneB b := by
  have hj : rightI ⟨2, 0, 0, 0, -4⟩ = true := by decide
  have u1 : usesB ⟨2, 0, 0, 0, -4⟩ = (BitVec.ofNat 32 0) := by unfold usesB; rw [hj]; decide
  have t1 : setsB ⟨2, 0, 0, 0, -4⟩ = (BitVec.ofNat 32 0) := by unfold setsB; rw [hj]; decide
  have hr := own_right ha hb
  have u0 : usesB ⟨27, a, 0, b, 0⟩ = oneB b := by
    unfold usesB
    rw [hr, if_neg (by simp), if_neg (by show ¬ ((27 : Int) = 45); decide)]
    show oneB 0 ||| oneB b = _
    unfold oneB; simp
  have t0 : setsB ⟨27, a, 0, b, 0⟩ = oneB a := by
    unfold setsB
    rw [hr, if_neg (by simp), if_neg (by show ¬ ((27 : Int) = 45); decide)]
  rw [back_cons, back_cons, back_nil]
  unfold stepB
  rw [u1, t1, u0, t0]
  have h9 : evenB n &&& (BitVec.ofNat 32 4294967295) = evenB n := BitVec.and_allOnes
  simp only [BitVec.or_zero]
  rw [show ~~~(BitVec.ofNat 32 0) = (BitVec.ofNat 32 4294967295) from rfl, h9]
theorem own_least {a b : Nat} (ha : a < 32) (hb : b < 32) : LeastF (flowI (ownI a b) [(4096, 2)]) [oneB b] ∧ behL (flowI (ownI a b) [(4096, 2)]) [oneB b] = [oneB b] := by
  have hx := own_next ha hb
  have hcode : (flowI (ownI a b) [(4096, 2)]).code 0 = [⟨27, a, 0, b, 0⟩, ⟨2, 0, 0, 0, -4⟩] := own_code ha hb
  have hnext : (flowI (ownI a b) [(4096, 2)]).next 0 = [0] := by show (nextV (ownI a b) [(4096, 2)] 0).1 = _; rw [hx]
  have hloose : (flowI (ownI a b) [(4096, 2)]).loose 0 = false := by
    show looseX (insA (ownI a b) 4100) (nextV (ownI a b) [(4096, 2)] 0).2 = false
    rw [hx, (own_1 ha hb).1]; decide
  have hbeh : ∀ A, behF (flowI (ownI a b) [(4096, 2)]) A 0 = A.getD 0 (BitVec.ofNat 32 0) := fun A => by
    unfold behF
    rw [hloose, hnext]
    show (BitVec.ofNat 32 0) ||| A.getD 0 (BitVec.ofNat 32 0) = _
    simp
  have hahd : ∀ A, ahdF (flowI (ownI a b) [(4096, 2)]) A 0 = (evenB (A.getD 0 (BitVec.ofNat 32 0)) &&& ~~~ oneB a) ||| oneB b := fun A => by
    unfold ahdF
    rw [hcode, hbeh, own_step ha hb]
  have hlow : ∀ n : BitVec 32, leB (oneB b) n → n = oneB b → (evenB n &&& ~~~ oneB a) ||| oneB b = oneB b := fun n h1 h2 => by
    subst h2
    apply BitVec.eq_of_getLsbD_eq
    intro i hi
    rw [BitVec.getLsbD_or, BitVec.getLsbD_and, even_get _ _ hi]
    cases (oneB (b : Int)).getLsbD i <;> simp
  refine ⟨⟨⟨rfl, fun k hk => ?_⟩, fun A' hA k => ?_⟩, ?_⟩
  · have hk0 : k = 0 := by have : (flowI (ownI a b) [(4096, 2)]).n = 1 := rfl; omega
    subst hk0
    rw [hahd]
    show oneB b = _
    exact (hlow (oneB b) (leB_refl _) rfl).symm
  · by_cases hk0 : k = 0
    · subst hk0
      rw [hA.fix 0 (by show 0 < 1; decide), hahd]
      show leB (oneB b) _
      exact fun i hi => by rw [BitVec.getLsbD_or, hi, Bool.or_true]
    · rw [getD_none (A := [oneB (b : Int)]) (by simp; omega)]
      exact leB_zero _
  · show [behF (flowI (ownI a b) [(4096, 2)]) [oneB b] 0] = _
    rw [hbeh]; rfl
end Lv
end Go.Proofs.YtcffpmicencfpabGreat
namespace Go.Proofs.YtcffpmicencfpabGreat
open Go.RowKit Go.Lib Go.Sort Ip Bl Lv Pm
set_option linter.unusedSimpArgs false
set_option linter.unusedVariables false

theorem own_or {a b : Nat} (ha : a < 32) (hb : b < 32) : bits .or .u32 (bits .or .u32 ((b : Int) * 1048576) ((a : Int) * 128)) 51 = ((ownW a b : Nat) : Int) := by
  have h : ∀ a : Nat, a < 32 → ∀ b : Nat, b < 32 → bits .or .u32 (bits .or .u32 ((b : Int) * 1048576) ((a : Int) * 128)) 51 = ((ownW a b : Nat) : Int) := by decide +kernel
  exact h a ha b hb
theorem own_pow {b : Nat} (hb : b < 32) (h0 : b ≠ 0) : (2 : Int) ^ b = ((oneB (b : Int)).toNat : Int) := by
  have h : ∀ d : Nat, d < 32 → d ≠ 0 → (2 : Int) ^ d = ((oneB (d : Int)).toNat : Int) := by decide +kernel
  exact h b hb h0
theorem own_ansL {a b : Nat} (ha : a < 32) (hb : b < 32) : AnsL (ownI a b) [(4096, 2)] [(oneB (b : Int)).toNat] [(oneB (b : Int)).toNat] 0 := by
  have h := own_least ha hb
  exact .inl ⟨own_rightP ha hb, rfl, [oneB (b : Int)], h.1, rfl, by rw [h.2]; rfl⟩
/-- While LiveOwn is at work: its image's box. -/
structure Ow9 (w : World) (i : Img) (E : Nat) (W : World) : Prop where
  ib : W.heap[w.heap.size + 1]? = some (.cells (imgC i (.slice (some ⟨w.heap.size, 0, none⟩) 2 2)) 26 (0, 0))
  lw : SlW W (.slice (some ⟨w.heap.size, 0, none⟩) 2 2) [E, 4292866159]
  low : Below w.heap.size w W
theorem Ow9.ext {w W W' : World} {i : Img} {E : Nat} (h : Ow9 w i E W) (hb : Below W.heap.size W W') : Ow9 w i E W' := ⟨keptN hb h.ib, h.lw.below hb, h.low.trans (hb.mono h.low.size)⟩
set_option maxHeartbeats 4000000 in
set_option maxRecDepth 100000 in
theorem liveOwn_walk (HL : LvAll) (n cut : Int) (w : World) (_ : -9223372036854775808 ≤ n ∧ n ≤ 9223372036854775807) (_ : -9223372036854775808 ≤ cut ∧ cut ≤ 9223372036854775807) :
    Calls Tryz.prog 3 #[.int .i64 n, .int .i64 cut] w fun e w' => e = .returned (.bool true) ∧ Below w.heap.size w w' := by
  obtain ⟨d1, h10, h11, h1⟩ := Wd.and16 n
  obtain ⟨d2, h20, h21, h2⟩ := Wd.and16 cut
  have HLL := hideE HL
  clear HL
  go_enter Tryz.func3, Tryz.ntmps3
  go_upto_region 2 with fail
  obtain ⟨a, ha⟩ : ∃ a : Nat, 1 + d1 % 31 = (a : Int) := ⟨(1 + d1 % 31).toNat, by omega⟩
  obtain ⟨b, hb⟩ : ∃ b : Nat, 1 + d2 % 31 = (b : Int) := ⟨(1 + d2 % 31).toNat, by omega⟩
  have ha1 : 1 ≤ a ∧ a < 32 := by omega
  have hb1 : 1 ≤ b ∧ b < 32 := by omega
  rw [ha, hb]
  clear ha hb h1 h2 h10 h11 h20 h21
  have hor := own_or ha1.2 hb1.2
  obtain ⟨i, hi⟩ : ∃ i, ownI a b = i := ⟨_, rfl⟩
  have hok : i.ok := by rw [← hi]; exact ownI_ok ha1.2 hb1.2
  have HF : Hid (AnsF (txI i) (seedsI i []) 0 [(4096, 2)]) := hideE (by rw [← hi]; exact own_ans ha1.2 hb1.2 (fun x => by simp [seedsI, ownI]))
  have hal := own_ansL ha1.2 hb1.2
  have hpw := own_pow hb1.2 (by omega)
  have hpm := one_shl b hb1.2 (by omega)
  obtain ⟨V, hV⟩ : ∃ V, (oneB (b : Int)).toNat = V := ⟨_, rfl⟩
  obtain ⟨E, hE⟩ : ∃ E, ownW a b = E := ⟨_, rfl⟩
  rw [hi, hV] at hal
  rw [hV] at hpw hpm
  rw [hE] at hor
  have hib0 : Hid (∀ W : World, W.heap[w.heap.size + 1]? = some (.cells #[.int .u32 4096, .int .u32 4096, .slice (some ⟨w.heap.size, 0, none⟩) 2 2, .int .i64 0] 26 (0, 0)) → W.heap[w.heap.size + 1]? = some (.cells (imgC i (.slice (some ⟨w.heap.size, 0, none⟩) 2 2)) 26 (0, 0))) := hideE (fun W hW => by rw [hW, ← hi]; rfl)
  have hws : i.words = [E, 4292866159] := by rw [← hi, ← hE]; rfl
  have HAL := hideE hal
  have HOK := hideE hok
  have HWS := hideE hws
  have h0 : Ow9 w i E ((w.alloc (.cells #[.int .u32 (E : Int), .int .u32 4292866159] 22)).alloc (.cells #[.int .u32 4096, .int .u32 4096, .slice (some ⟨w.heap.size, 0, none⟩) 2 2, .int .i64 0] 26)) := by
    have g1 := heap_alloc_new (w.alloc (.cells #[.int .u32 (E : Int), .int .u32 4292866159] 22)) (.cells #[.int .u32 4096, .int .u32 4096, .slice (some ⟨w.heap.size, 0, none⟩) 2 2, .int .i64 0] 26)
    rw [World.size_alloc] at g1
    exact ⟨hib0.out _ g1, (slw_lit w #[.int .u32 (E : Int), .int .u32 4292866159] [E, 4292866159] rfl).alloc _, ((Below.refl _ w).alloc (Nat.le_refl _) _).alloc (by simp) _⟩
  have H0 := hideE h0
  clear hal hok hws h0 hV hE hi hib0
  go_upto_region 3 with fail
  refine gen_world (Ow9 w i E) H0.out ?_
  clear H0 hor
  intro wa h1
  have hib := h1.ib
  have HRF := hideE (rfind_any i (.slice (some ⟨w.heap.size, 0, none⟩) 2 2) (.slice none 0 0) [] (fun a ha => by simp at ha) (by decide) HOK.out wa (by rw [HWS.out]; exact h1.lw) (slw_nil wa))
  have H1 := hideE h1
  clear h1
  go_upto_region 4 with (first
    | (refine wpList_load_row rfl 26 _ rfl (w.heap.size + 1) rfl _ _ _ _ hib Tryz.underlying26 rfl (by kernel_rfl) ?_)
    | (go_at_call 4; refine HRF.out.mono ?_; rintro e wb ⟨er, l, hans, u1, rfl, hrow, hb⟩; obtain ⟨hs1, hs2⟩ := HF.out.same hans (fun _ => Iff.rfl); subst hs1; subst hs2; obtain ⟨p1, c1, rfl⟩ := own_slice' hrow))
  refine gen_world (fun W => Ow9 w i E W ∧ SlB W (.slice p1 1 c1) [(4096, 2)]) ⟨H1.out.ext hb, slb_of_owns hrow⟩ ?_
  clear hib HRF H1 hans hrow hb
  rintro wc ⟨h2, hsl⟩
  have hib := h2.ib
  have HLF := hideE (HLL.out.find i (.slice (some ⟨w.heap.size, 0, none⟩) 2 2) (.slice p1 1 c1) [(4096, 2)] (by decide) (by decide) HOK.out wc (by rw [HWS.out]; exact h2.lw) hsl)
  have H2 := hideE h2
  clear h2 hsl
  go_upto_region 5 with (first
    | (refine wpList_load_row rfl 26 _ rfl (w.heap.size + 1) rfl _ _ _ _ hib Tryz.underlying26 rfl (by kernel_rfl) ?_)
    | (go_at_call 5; refine HLF.out.mono ?_; rintro e wd ⟨x, y, er, hans, ua, ub, rfl, hra, hrb, hb⟩; obtain ⟨hs1, hs2, hs3⟩ := HAL.out.same hans; subst hs1; subst hs2; subst hs3; obtain ⟨p2, c2, rfl⟩ := own_slice' hra; obtain ⟨p3, c3, rfl⟩ := own_slice' hrb))
  have h3 := H2.out.ext hb
  have hsa := slw_of_owns hra
  have hsb := slw_of_owns hrb
  refine gen_world (fun W => Ow9 w i E W ∧ SlW W (.slice p2 1 c2) [V] ∧ SlW W (.slice p3 1 c3) [V]) ⟨h3, hsa, hsb⟩ ?_
  clear hib HLF H2 hans hra hrb hb h3 hsa hsb
  rintro we ⟨h4, hsa, hsb⟩
  obtain ⟨g2, o2, rfl, a1⟩ := hsa.at (k := 0) rfl
  obtain ⟨g3, o3, rfl, a2⟩ := hsb.at (k := 0) rfl
  simp only [Nat.add_zero] at a1 a2
  have HIB : Hid (we.heap[w.heap.size + 1]? = some (.cells (imgC i (.slice (some ⟨w.heap.size, 0, none⟩) 2 2)) 26 (0, 0))) := h4.ib
  have ib' : we.heap[w.heap.size + 1]? = some (.cells #[.int .u32 (i.base.toNat : Int), .int .u32 (i.entry.toNat : Int), .slice (some ⟨w.heap.size, 0, none⟩) 2 2, .int .i64 (i.seg : Int)] 26 (0, 0)) := h4.ib
  obtain ⟨⟨m0, m1, m2, m3⟩, _⟩ := four ib'
  have HTX : Hid (Calls Tryz.prog 6 #[.agg #[.int .u32 (i.base.toNat : Int), .int .u32 (i.entry.toNat : Int), .slice (some ⟨w.heap.size, 0, none⟩) 2 2, .int .i64 (i.seg : Int)]] we fun en W' => ∃ (b1 e1 s1 : Int) (pt : Option Addr) (ct : Nat), en = .returned (.agg #[.int .u32 b1, .int .u32 e1, .slice pt 2 ct, .int .i64 s1]) ∧ Below we.heap.size we W') :=
    hideE ((text_any i.base i.entry (.slice (some ⟨w.heap.size, 0, none⟩) 2 2) [E, 4292866159] (i.seg : Int) (.inr ⟨_, _, _, rfl⟩) we h4.lw).mono fun e W' h => by
      obtain ⟨v, he, hs, _, hb⟩ := h
      obtain ⟨pt, ct, rfl, _⟩ := hs.len
      exact ⟨_, _, _, pt, ct, he, hb⟩)
  have HLO := hideE h4.low
  have hb0 : (0 : Int) ≤ (b : Int) := by omega
  have hfl : ∀ (x y z : Int) (p : Option Addr) (c : Nat) (W : World), Sem.run Tryz.prog (Instr.field 26 (.agg #[.int .u32 x, .int .u32 y, .slice p 2 c, .int .i64 z]) 2) W = .ok (.slice p 2 c) W := by
    intro x y z p c W
    kernel_rfl
  clear h4 hsa hsb ib' HIB
  go_wp2_with (first
    | (go_at_call 6; refine HTX.out.mono ?_; rintro e wf ⟨b1, e1, s1, pt, ct, rfl, hbt⟩)
    | (go_at_call 7; refine (fixed9_any HLL.out _).mono ?_; rintro e wg ⟨rfl, hbf⟩))
  go_ret
  have h9 := HLO.out.trans (hbt.mono HLO.out.size)
  exact ⟨rfl, h9.trans (hbf.mono h9.size)⟩
end Go.Proofs.YtcffpmicencfpabGreat
namespace Go.Proofs.YtcffpmicencfpabGreat.liveOwn
open Go.ChangeShapes Go.WideShapes Go.ChangeAt Go.RowKit
open Go.ChangeMaps (open_string shut_string)
set_option linter.unusedVariables false

theorem own : ownKnob Tryz.prog.godebug = none := by kernel_rfl

set_option maxRecDepth 100000 in
theorem lifted (os : Os) (started : os.Started) (H : Type) (enc : TypeId × Value → H) :
    ReturnsInHanded {} Tryz.checked os 3 .any (Rows.liveOwnSpec.pre6 enc Tryz.prog Tryz.f3 Rows.liveOwnRow.domain false) (Rows.liveOwnSpec.post enc Tryz.prog Tryz.f3 false true false false) := by
  refine returnsInHanded_of_change (C := Tryz.checked) own started (by kernel_rfl) Tryz.func3
    (ChangeSpec.witness6 (enc := enc) (C := Tryz.checked) false ⟨#[], #[.int .i64 0, .int .i64 0], []⟩ 8 (by kernel_rfl) (by kernel_rfl) (by kernel_rfl) (by kernel_rfl)) ?_
  intro W base args ds gs before hval0 hW hcnd _
  have hval : ∀ (j : Nat) t v, Tryz.f3.params[j]? = some t → args[j]? = some v → Value.okWide Tryz.prog W .any base t v := hval0
  have hW' := hW
  obtain ⟨p, q, hA0, hV, rfl, hfz, hnd⟩ := hW
  have hA : DataW.TrodAll enc Tryz.prog W 0 (fun _ => true) true Tryz.f3.params.toList args.toList ds p := hA0
  rw [Tryz.params3] at hA hval
  obtain ⟨v0, vs0, d0, ds0, p0, q0, hargs, rfl, rfl, h0, r0⟩ := trodAll_cons hA
  obtain ⟨v1, vs1, d1, ds1, p1, q1, rfl, rfl, rfl, h1, r1⟩ := trodAll_cons r0
  obtain ⟨rfl, rfl, rfl⟩ := trodAll_nil r1
  obtain rfl : args = #[v0, v1] := by cases args; simp_all
  obtain ⟨rfl, rfl⟩ := trodVars_none hV
  have hlt : ∀ x ∈ p0 ++ p1, x.block < W.heap.size := fun x hx => by simpa using hW'.lt x (by simpa using hx)
  have k0 := h0
  have l0 : ∀ x ∈ p0, x.block < W.heap.size := fun x hx => hlt x (by simp [hx])
  have k1 := h1
  have l1 : ∀ x ∈ p1, x.block < W.heap.size := fun x hx => hlt x (by simp [hx])
  obtain ⟨a0, rfl, rfl, rfl, w0⟩ := open_int Tryz.underlying3 (hval 0 3 v0 rfl rfl) h0
  obtain ⟨a1, rfl, rfl, rfl, w1⟩ := open_int Tryz.underlying3 (hval 1 3 v1 rfl rfl) h1
  clear hA0 hval0
  refine (liveOwn_walk lv9 a0 a1 W (bounds_i64 w0) (bounds_i64 w1)).mono fun e W' ⟨he, hg⟩ => ?_
  subst he
  exact ⟨_, rfl, _, _, _, [], _, [], hW', trodAll_mk1 (shut_bool Tryz.underlying4 _), (trodAll_cons_mk (Below.trod laidOut6 (by kernel_rfl) (of_decide_eq_true (by kernel_rfl)) k0 hg l0) (trodAll_cons_mk (Below.trod laidOut6 (by kernel_rfl) (of_decide_eq_true (by kernel_rfl)) k1 hg l1) trodAll_mk0)), rfl, hg.frame _, fun h => by cases h⟩

theorem over : Rows.liveOwnRow.holds Tryz.pinned (OpenSpec.ofChange Rows.liveOwnSpec) :=
  OpenClaim.holds_of_wide 3 Tryz.f3 rfl rfl rfl rfl rfl rfl rfl ⟨rfl, rfl, rfl, rfl, rfl⟩ rfl rfl rfl rfl rfl (by kernel_rfl) Tryz.func3 (by kernel_rfl)
    (of_decide_eq_true (by kernel_rfl)) (by unfold Func.isWrapper; first | (rw [if_pos (by decide +kernel)]; kernel_rfl) | (rw [if_neg (by decide +kernel)]; exact ⟨rfl, rfl⟩))
    (fun os started H enc _ => lifted os started H enc)

theorem proved : Rows.LiveOwnSaid :=
  over
#print axioms proved
end Go.Proofs.YtcffpmicencfpabGreat.liveOwn
