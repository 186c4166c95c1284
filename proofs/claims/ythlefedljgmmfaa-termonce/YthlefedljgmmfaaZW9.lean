/-
  What fold works off, plainly: what is known, and a list of what is to be read, whose reckonings that wait are marked.
  Contract of fold: over any two functions that answer a term's word out of its parts' words.
-/

import Derived.Test.YthlefedljgmmfaaZW8
namespace Go.Proofs.Ythlefedljgmmfaa
open Go.RowKit Go.Lib Tm
set_option linter.unusedSimpArgs false
set_option linter.unusedVariables false

namespace Tm
def kI (k : Nat) : Lit := .int .i64 (k : Int)
def vI (v : BitVec 32) : DataW Unit := .lit (.int .u32 (v.toNat : Int))
theorem kI_inj {a b : Nat} (h : kI a = kI b) : a = b := by unfold kI at h; injection h with _ h; omega
theorem kI_key (k : Nat) : WideAt.IsKeyLit (kI k) := trivial
/-- What is known: each key once, below the bound, with its word. -/
structure Kn (F : Nat → BitVec 32) (n : Nat) (Ks : List Nat) (D : DataW Unit) : Prop where
  tidy : Maps.Tidy D
  size : Maps.size D = Ks.length
  has : ∀ k : Nat, Maps.has D (kI k) = decide (k ∈ Ks)
  val : ∀ k ∈ Ks, ∀ z, D.atKey (kI k) z = vI (F k)
  once : Ks.Nodup
  le : ∀ k ∈ Ks, k ≤ n
def insK (k : Nat) (Ks : List Nat) : List Nat := if k ∈ Ks then Ks else k :: Ks
theorem mem_insK {k c : Nat} {Ks : List Nat} : c ∈ insK k Ks ↔ c = k ∨ c ∈ Ks := by
  unfold insK
  split
  · rename_i h; exact ⟨.inr, fun h' => h'.elim (fun e => e ▸ h) id⟩
  · exact List.mem_cons
theorem Kn.nil (F : Nat → BitVec 32) (n : Nat) : Kn F n [] (.map []) :=
  ⟨Maps.tidy_empty, rfl, fun k => rfl, fun k hk => by simp at hk, List.nodup_nil, fun k hk => by simp at hk⟩
theorem Kn.put {F : Nat → BitVec 32} {n : Nat} {Ks : List Nat} {D : DataW Unit} (h : Kn F n Ks D) {k : Nat} (hk : k ≤ n) : Kn F n (insK k Ks) (D.put (kI k) (vI (F k))) := by
  refine ⟨h.tidy.put (kI_key k) _, ?_, fun c => ?_, fun c hc z => ?_, ?_, fun c hc => ?_⟩
  · rw [Maps.size_put h.tidy, h.size, h.has]
    unfold insK
    by_cases e : k ∈ Ks
    · rw [if_pos (decide_eq_true e), if_pos e]
    · rw [if_neg (by simpa using e), if_neg e]; rfl
  · by_cases e : c = k
    · subst e
      rw [Maps.has_put_same h.tidy.isMap (kI_key c), decide_eq_true (mem_insK.2 (.inl rfl))]
    · rw [Maps.has_put_other (fun e2 => e (kI_inj e2)), h.has, decide_eq_decide, mem_insK]
      exact ⟨.inr, fun h' => h'.elim (fun c' => absurd c' e) id⟩
  · by_cases e : c = k
    · subst e
      exact Maps.atKey_put_same h.tidy.isMap (kI_key c) _ _
    · rw [Maps.atKey_put_other (fun e2 => e (kI_inj e2))]
      exact h.val c ((mem_insK.1 hc).resolve_left e) z
  · unfold insK
    split
    · exact h.once
    · rename_i e; exact List.nodup_cons.2 ⟨e, h.once⟩
  · rcases mem_insK.1 hc with e | e
    · rw [e]; exact hk
    · exact h.le c e
theorem nodupT_len {l m : List Nat} (hn : l.Nodup) (hs : ∀ a ∈ l, a ∈ m) : l.length ≤ m.length := by
  induction l generalizing m with
  | nil => exact Nat.zero_le _
  | cons a l ih =>
    rw [List.nodup_cons] at hn
    have ha : a ∈ m := hs a List.mem_cons_self
    have := ih (m := m.erase a) hn.2 (fun b hb => (List.mem_erase_of_ne (fun e => hn.1 (by rw [← e]; exact hb))).2 (hs b (List.mem_cons_of_mem _ hb)))
    rw [List.length_erase_of_mem ha] at this
    have hp : 0 < m.length := List.length_pos_of_mem ha
    rw [List.length_cons]; omega
theorem nodupT_le (n : Nat) (l : List Nat) (hn : l.Nodup) (hl : ∀ k ∈ l, k ≤ n) : l.length ≤ n + 1 := by
  have h1 : l.length ≤ (List.range (n + 1)).length := nodupT_len hn (fun k hk => List.mem_range.2 (by have := hl k hk; omega))
  rwa [List.length_range] at h1
theorem Kn.len {F : Nat → BitVec 32} {n : Nat} {Ks : List Nat} {D : DataW Unit} (h : Kn F n Ks D) : Ks.length ≤ n + 1 := nodupT_le n Ks h.once h.le

/-- The parts of a reckoning. -/
def Child (L : List Trm) (k c : Nat) : Prop := ∃ (op : Int) (a b : Nat), L[k]? = some (opT op (a : Int) (b : Int)) ∧ (c = a ∨ c = b)
abbrev Stk := List (Nat × Bool)
def wS : Stk → Nat
  | [] => 0
  | p :: r => (if p.2 = true then 1 else 3 ^ (p.1 + 1)) + wS r
theorem wS_app (s r : Stk) : wS (s ++ r) = wS s + wS r := by
  induction s with
  | nil => simp [wS]
  | cons p s ih => show _ + wS (s ++ r) = _ + wS s + wS r; rw [ih]; omega
structure Stack (L : List Trm) (n : Nat) (Ks : List Nat) (s : Stk) : Prop where
  low : ∀ (p : Nat) (x : Nat × Bool), s[p]? = some x → x.1 + (p + 1) / 2 ≤ n
  mark : ∀ (p k : Nat), s[p]? = some (k, true) → ∀ c, Child L k c → c ∈ Ks ∨ ∃ p' m', p < p' ∧ s[p']? = some (c, m')
  root : n ∈ Ks ∨ ∃ m, s[0]? = some (n, m)
theorem Stack.start (L : List Trm) (n : Nat) : Stack L n [] [(n, false)] := by
  refine ⟨fun p x hx => ?_, fun p k hx => ?_, .inr ⟨false, rfl⟩⟩
  · cases p with
    | zero => simp at hx; subst hx; simp
    | succ p => simp at hx
  · cases p with
    | zero => simp at hx
    | succ p => simp at hx
theorem Stack.top {L : List Trm} {n : Nat} {Ks : List Nat} {s : Stk} {k : Nat} {m : Bool} (h : Stack L n Ks (s ++ [(k, m)])) : k ≤ n ∧ s.length ≤ 2 * n := by
  have := h.low s.length (k, m) (by rw [List.getElem?_append_right (Nat.le_refl _), Nat.sub_self]; rfl)
  simp only at this
  omega
theorem Stack.pop {L : List Trm} {n : Nat} {Ks : List Nat} {s : Stk} {k : Nat} {m : Bool} (h : Stack L n Ks (s ++ [(k, m)])) : Stack L n (insK k Ks) s ∧ wS s < wS (s ++ [(k, m)]) := by
  refine ⟨⟨fun p x hx => ?_, fun p j hx c hc => ?_, ?_⟩, ?_⟩
  · have hp := (List.getElem?_eq_some_iff.1 hx).1
    exact h.low p x (by rw [List.getElem?_append_left hp]; exact hx)
  · have hp := (List.getElem?_eq_some_iff.1 hx).1
    rcases h.mark p j (by rw [List.getElem?_append_left hp]; exact hx) c hc with e | ⟨p', m', hpp, e⟩
    · exact .inl (mem_insK.2 (.inr e))
    · by_cases hl : p' < s.length
      · rw [List.getElem?_append_left hl] at e
        exact .inr ⟨p', m', hpp, e⟩
      · rw [List.getElem?_append_right (by omega)] at e
        have hz := (List.getElem?_eq_some_iff.1 e).1
        simp at hz
        rw [show p' - s.length = 0 by omega] at e
        simp at e
        exact .inl (mem_insK.2 (.inl e.1.symm))
  · rcases h.root with e | ⟨m', e⟩
    · exact .inl (mem_insK.2 (.inr e))
    · by_cases hl : 0 < s.length
      · rw [List.getElem?_append_left hl] at e
        exact .inr ⟨m', e⟩
      · have : s = [] := List.length_eq_zero_iff.1 (by omega)
        subst this
        simp at e
        exact .inl (mem_insK.2 (.inl e.1.symm))
  · rw [wS_app]
    have : 0 < wS [(k, m)] := by
      show 0 < (if m = true then 1 else 3 ^ (k + 1)) + 0
      split
      · omega
      · have := Nat.pow_pos (n := k + 1) (show 0 < 3 by omega); omega
    omega
theorem Stack.expand {L : List Trm} {n : Nat} {Ks : List Nat} {s : Stk} {k a b : Nat} {m : Bool} {op : Int} (h : Stack L n Ks (s ++ [(k, m)])) (ht : L[k]? = some (opT op (a : Int) (b : Int))) (ha : a < k) (hb : b < k) (hn : ¬ (a ∈ Ks ∧ b ∈ Ks)) :
    Stack L n Ks (s ++ [(k, true)] ++ [(a, false), (b, false)]) ∧ wS (s ++ [(k, true)] ++ [(a, false), (b, false)]) < wS (s ++ [(k, m)]) := by
  have hat : (s ++ [(k, m)])[s.length]? = some (k, m) := by rw [List.getElem?_append_right (Nat.le_refl _), Nat.sub_self]; rfl
  have hm : m = false := by
    cases m with
    | false => rfl
    | true =>
      have hc := h.mark s.length k hat
      have out : ∀ c, Child L k c → c ∈ Ks := fun c hch => by
        rcases hc c hch with e | ⟨p', m', hpp, e⟩
        · exact e
        · have := (List.getElem?_eq_some_iff.1 e).1
          simp at this
          omega
      exact absurd ⟨out a ⟨op, a, b, ht, .inl rfl⟩, out b ⟨op, a, b, ht, .inr rfl⟩⟩ hn
  subst hm
  have hk := h.low s.length (k, false) hat
  simp only at hk
  have g0 : ∀ p, p < s.length → (s ++ [(k, true)] ++ [(a, false), (b, false)])[p]? = s[p]? := fun p hp => by
    rw [List.append_assoc, List.getElem?_append_left hp]
  have g1 : (s ++ [(k, true)] ++ [(a, false), (b, false)])[s.length]? = some (k, true) := by
    rw [List.append_assoc, List.getElem?_append_right (Nat.le_refl _), Nat.sub_self]; rfl
  have g2 : (s ++ [(k, true)] ++ [(a, false), (b, false)])[s.length + 1]? = some (a, false) := by
    rw [List.append_assoc, List.getElem?_append_right (by omega), show s.length + 1 - s.length = 1 by omega]; rfl
  have g3 : (s ++ [(k, true)] ++ [(a, false), (b, false)])[s.length + 2]? = some (b, false) := by
    rw [List.append_assoc, List.getElem?_append_right (by omega), show s.length + 2 - s.length = 2 by omega]; rfl
  have old : ∀ p x, (s ++ [(k, false)])[p]? = some x → p < s.length → s[p]? = some x := fun p x hx hp => by rwa [List.getElem?_append_left hp] at hx
  have cases4 : ∀ p x, (s ++ [(k, true)] ++ [(a, false), (b, false)])[p]? = some x → (p < s.length ∧ s[p]? = some x) ∨ (p = s.length ∧ x = (k, true)) ∨ (p = s.length + 1 ∧ x = (a, false)) ∨ (p = s.length + 2 ∧ x = (b, false)) := fun p x hx => by
    have hl := (List.getElem?_eq_some_iff.1 hx).1
    simp only [List.length_append, List.length_cons, List.length_nil] at hl
    by_cases h1 : p < s.length
    · exact .inl ⟨h1, by rw [← g0 p h1]; exact hx⟩
    · by_cases h2 : p = s.length
      · subst h2; rw [g1] at hx; exact .inr (.inl ⟨rfl, (Option.some.inj hx).symm⟩)
      · by_cases h3 : p = s.length + 1
        · subst h3; rw [g2] at hx; exact .inr (.inr (.inl ⟨rfl, (Option.some.inj hx).symm⟩))
        · obtain rfl : p = s.length + 2 := by omega
          rw [g3] at hx; exact .inr (.inr (.inr ⟨rfl, (Option.some.inj hx).symm⟩))
  refine ⟨⟨fun p x hx => ?_, fun p j hx c hc => ?_, ?_⟩, ?_⟩
  · rcases cases4 p x hx with ⟨h1, h2⟩ | ⟨rfl, rfl⟩ | ⟨rfl, rfl⟩ | ⟨rfl, rfl⟩
    · exact h.low p x (by rw [List.getElem?_append_left h1]; exact h2)
    · show k + (s.length + 1) / 2 ≤ n; omega
    · show a + (s.length + 1 + 1) / 2 ≤ n; omega
    · show b + (s.length + 2 + 1) / 2 ≤ n; omega
  · rcases cases4 p _ hx with ⟨h1, h2⟩ | ⟨rfl, e⟩ | ⟨rfl, e⟩ | ⟨rfl, e⟩
    · rcases h.mark p j (by rw [List.getElem?_append_left h1]; exact h2) c hc with e | ⟨p', m', hpp, e⟩
      · exact .inl e
      · by_cases hl : p' < s.length
        · exact .inr ⟨p', m', hpp, by rw [g0 p' hl]; exact old p' _ e hl⟩
        · have hz := (List.getElem?_eq_some_iff.1 e).1
          simp at hz
          obtain rfl : p' = s.length := by omega
          rw [hat] at e
          injection e with e
          injection e with e1 e2
          subst e1
          exact .inr ⟨s.length, true, hpp, g1⟩
    · injection e with e1 _
      subst e1
      obtain ⟨op', a', b', ht', hc'⟩ := hc
      rw [ht] at ht'
      injection ht' with ht'
      unfold opT at ht'
      injection ht' with _ _ _ q1 q2
      have q1' : a = a' := by omega
      have q2' : b = b' := by omega
      rcases hc' with rfl | rfl
      · exact .inr ⟨s.length + 1, false, by omega, by rw [← q1']; exact g2⟩
      · exact .inr ⟨s.length + 2, false, by omega, by rw [← q2']; exact g3⟩
    · injection e with _ e2; cases e2
    · injection e with _ e2; cases e2
  · rcases h.root with e | ⟨m', e⟩
    · exact .inl e
    · by_cases hl : 0 < s.length
      · exact .inr ⟨m', by rw [g0 0 hl]; exact old 0 _ e hl⟩
      · have hz : s.length = 0 := by omega
        have e2 := hat
        rw [hz] at e2 g1
        rw [e2] at e
        injection e with e
        injection e with e1 _
        exact .inr ⟨true, by rw [g1, e1]⟩
  · rw [wS_app, wS_app, wS_app]
    show wS s + (1 + 0) + (3 ^ (a + 1) + (3 ^ (b + 1) + 0)) < wS s + (3 ^ (k + 1) + 0)
    have h1 : 3 ^ (a + 1) ≤ 3 ^ k := Nat.pow_le_pow_right (by omega) (by omega)
    have h2 : 3 ^ (b + 1) ≤ 3 ^ k := Nat.pow_le_pow_right (by omega) (by omega)
    have h3 : 3 ^ (k + 1) = 3 ^ k * 3 := Nat.pow_succ 3 k
    have h4 : 3 ≤ 3 ^ k := by
      have := Nat.pow_le_pow_right (n := 3) (i := 1) (j := k) (by omega) (by omega)
      simpa using this
    omega
end Tm
end Go.Proofs.Ythlefedljgmmfaa
namespace Go.Proofs.Ythlefedljgmmfaa
open Go.RowKit Go.Lib Go.Shelf Go.Maps Tm
set_option linter.unusedSimpArgs false
set_option linter.unusedVariables false

theorem zeroU10 (w : World) : (zeroValue 31).run Try.prog w = .ok (.int .u32 0) w := by kernel_rfl
theorem lawI10 : Maps.Keyed Try.prog 3 := int_keyed Try.underlying3
theorem infoI10 : (Try.prog.info? 3).map (fun i => (i.zero, i.size, i.bytes)) = some (some (.int .i64 0), 1, 8) := by kernel_rfl
abbrev knowsAt (W : World) (b n : Nat) (D : DataW Unit) : Prop := W.ownsMap Try.prog 3 (plainElem Try.prog 31) b n D
theorem keyI10 {k : Nat} (hk : k ≤ 1000000) : keyOf Try.prog 3 (.int .i64 (k : Int)) = some (kI k) := keyOf_int_mk Try.underlying3 (WalkArith.wf_i64 (n := (k : Int)) (by omega))
set_option maxRecDepth 100000 in
/-- A look-up among what is known. -/
theorem kn_look {F : Nat → BitVec 32} {n b : Nat} {Ks : List Nat} {D : DataW Unit} {W : World} (hK : Kn F n Ks D) (h : knowsAt W b Ks.length D) {k : Nat} (hk : k ≤ 1000000) :
    ∃ c : Int, (Instr.lookup 98 (.map (some b)) (.int .i64 (k : Int)) true).run Try.prog W = .ok (.tuple #[.int .u32 c, .bool (decide (k ∈ Ks))]) W ∧ (k ∈ Ks → c = ((F k).toNat : Int)) := by
  have hz : plainElem (H := Unit) Try.prog 31 (.int .u32 0) = some (.lit (.int .u32 0), []) := plainElem_int Try.underlying31 (by decide)
  obtain ⟨v, ps, hrun, hv⟩ := h.look_ok lawI10 Try.underlying98 (zeroU10 W) hz (keyI10 hk)
  obtain ⟨c, rfl, hc, hw⟩ := plainElem_int_inv Try.underlying31 hv
  rw [hK.has k] at hrun
  refine ⟨c, hrun, fun hf => ?_⟩
  have h2 := congrArg Prod.fst hc
  simp only at h2
  rw [hK.val k hf] at h2
  unfold vI at h2
  injection h2 with h2
  injection h2 with _ h2
  exact h2.symm
set_option maxRecDepth 100000 in
theorem kn_last {F : Nat → BitVec 32} {n b : Nat} {Ks : List Nat} {D : DataW Unit} {W : World} (hK : Kn F n Ks D) (h : knowsAt W b Ks.length D) {k : Nat} (hk : k ≤ 1000000) (hm : k ∈ Ks) :
    (Instr.lookup 98 (.map (some b)) (.int .i64 (k : Int)) false).run Try.prog W = .ok (.int .u32 ((F k).toNat : Int)) W := by
  obtain ⟨c, hrun, hat, _⟩ := h.lookup_int lawI10 Try.underlying98 Try.underlying31 (zeroU10 W) (keyI10 hk)
  rw [hK.val k hm] at hat
  unfold vI at hat
  injection hat with h2
  injection h2 with _ h2
  rw [hrun, h2]
set_option maxRecDepth 100000 in
theorem kn_store {F : Nat → BitVec 32} {n b : Nat} {Ks : List Nat} {D : DataW Unit} {W : World} (hK : Kn F n Ks D) (h : knowsAt W b Ks.length D) {k : Nat} (hk : k ≤ n) (hn : n ≤ 1000) :
    ∃ W', (Instr.mapUpdate 98 (.map (some b)) (.int .i64 (k : Int)) (.int .u32 ((F k).toNat : Int))).run Try.prog W = .ok () W' ∧ knowsAt W' b (insK k Ks).length (D.put (kI k) (vI (F k))) ∧ W.grownBy W' (some b) := by
  have hl := hK.len
  have hz : plainElem (H := Unit) Try.prog 31 (.int .u32 ((F k).toNat : Int)) = some (.lit (.int .u32 ((F k).toNat : Int)), []) := plainElem_int Try.underlying31 (wf32T (F k))
  obtain ⟨W', h1, h2, h3⟩ := h.update lawI10 Try.underlying98 (by unfold maxLen; omega) (keyI10 (k := k) (by omega)) hz
  refine ⟨W', h1, ?_, h3⟩
  have hp := hK.put hk
  obtain ⟨es, clock, hb, Fi, hs, hD⟩ := h2
  refine ⟨es, clock, hb, Fi, ?_, hD⟩
  rw [← hp.size]
  have e1 : Maps.size (DataW.map ((es.toList.map (WideElems.rg Try.prog 3 (plainElem (H := Unit) Try.prog 31))).foldr DataW.insert [])) = es.size := by simp [Maps.size, length_sorted]
  show es.size ≤ Maps.size (D.put (kI k) (.lit (.int .u32 ((F k).toNat : Int))))
  rw [hD, e1]
  exact Nat.le_refl _
theorem row_lessT {W : World} {B : Nat} {t : TypeId} {p : Option Addr} {c n : Nat} {x : Value} {xs : List Value} (h : W.ownsRow B t 1 (.slice p (n + 1) c) (n + 1) (xs ++ [x])) : W.ownsRow B t 1 (.slice p n c) n xs := by
  have hl := h.1
  simp at hl
  rcases h.2 with ⟨e, _⟩ | ⟨g', cap, cur, e, h1, h2, h3, h4, h5, h6⟩
  · cases e
  · injection e with e1 e2 e3
    subst e1 e3
    refine ⟨by simpa using hl, .inr ⟨g', c, cur, rfl, h1, h2, by omega, h4, h5, ?_⟩⟩
    have := congrArg (List.take n) h6
    rw [List.take_take, List.take_append_of_le_length (by omega), List.take_of_length_le (l := xs) (by omega)] at this
    rw [show min n ((n + 1) * 1) = n * 1 by omega] at this
    exact this
def stkC (s : Stk) : List Value := s.map fun p => .int .i64 (p.1 : Int)
theorem stkC_app (s r : Stk) : stkC (s ++ r) = stkC s ++ stkC r := List.map_append
theorem stkC_len (s : Stk) : (stkC s).length = s.length := List.length_map _
/-- While fold is at work: what is known, and what is to be read. -/
structure Fd (w : World) (F : Nat → BitVec 32) (L : List Trm) (n bm : Nat) (Ks : List Nat) (D : DataW Unit) (s : Stk) (v : Value) (W : World) : Prop where
  low : Below w.heap.size w W
  new : w.heap.size ≤ bm
  kn : Kn F n Ks D
  own : knowsAt W bm Ks.length D
  stk : Stack L n Ks s
  row : W.ownsRow w.heap.size 3 1 v s.length (stkC s)
section
variable {w W W' : World} {F : Nat → BitVec 32} {L : List Trm} {n bm : Nat} {Ks : List Nat} {D : DataW Unit} {s : Stk} {v : Value}
theorem Fd.vne (h : Fd w F L n bm Ks D s v W) : v.ownBlock ≠ some bm := fun e => by
  obtain ⟨es, c, hb, _⟩ := h.own
  rcases h.row.2 with ⟨e1, _⟩ | ⟨g', cap, cur, e1, _, hg, _⟩
  · rw [e1] at e; cases e
  · rw [e1] at e
    injection e with e
    simp only at e
    rw [e, hb] at hg; cases hg
theorem Fd.below (h : Fd w F L n bm Ks D s v W) (hb : Below W.heap.size W W') : Fd w F L n bm Ks D s v W' :=
  ⟨h.low.trans (hb.mono h.low.size), h.new, h.kn, h.own.kept (grownT_below hb none) (by simp), h.stk, keptT h.row hb⟩
/-- One is known more, and the last is taken off. -/
theorem Fd.pop {k d : Nat} {m : Bool} {s0 : Stk} {pv : Option Addr} {cv : Nat} (h : Fd w F L n bm Ks D (s0 ++ [(k, m)]) (.slice pv (d + 1) cv) W) (hd : s0.length = d) (hg : W.grownBy W' (some bm)) (hown : knowsAt W' bm (insK k Ks).length (D.put (kI k) (vI (F k)))) :
    Fd w F L n bm (insK k Ks) (D.put (kI k) (vI (F k))) s0 (.slice pv d cv) W' := by
  refine ⟨h.low.grown hg h.low.size (fun j e => by injection e with e; rw [← e]; exact h.new), h.new, h.kn.put h.stk.top.1, hown, h.stk.pop.1, ?_⟩
  have hr := h.row.kept hg (.inr h.vne)
  rw [List.length_append, List.length_singleton, hd, stkC_app] at hr
  have := row_lessT hr
  rwa [hd]
/-- A reckoning waits for its parts. -/
theorem Fd.push {k a b : Nat} {m : Bool} {s0 : Stk} {op : Int} {v' : Value} {o : Obj} (h : Fd w F L n bm Ks D (s0 ++ [(k, m)]) v W) (ht : L[k]? = some (opT op (a : Int) (b : Int))) (ha : a < k) (hb : b < k) (hn : ¬ (a ∈ Ks ∧ b ∈ Ks))
    (hown : W'.ownsRow w.heap.size 3 1 v' (s0.length + 1 + 2) (stkC (s0 ++ [(k, m)]) ++ [.int .i64 (a : Int), .int .i64 (b : Int)])) (hgr : (W.alloc o).grownBy W' v.ownBlock) :
    Fd w F L n bm Ks D (s0 ++ [(k, true)] ++ [(a, false), (b, false)]) v' W' := by
  have hg : W.grownBy W' v.ownBlock := (World.grownBy_alloc W o v.ownBlock).trans hgr
  refine ⟨h.low.grown hg h.low.size (fun j e => (h.row.lt j e).1), h.new, h.kn, h.own.kept hg (fun e => h.vne e.symm), (h.stk.expand ht ha hb hn).1, ?_⟩
  have e1 : stkC (s0 ++ [(k, true)] ++ [(a, false), (b, false)]) = stkC (s0 ++ [(k, m)]) ++ [.int .i64 (a : Int), .int .i64 (b : Int)] := by
    rw [stkC_app, stkC_app, stkC_app]; rfl
  have e2 : (s0 ++ [(k, true)] ++ [(a, false), (b, false)]).length = s0.length + 1 + 2 := by simp
  rw [e1, e2]
  exact hown
end
theorem Fd.start (w : World) (F : Nat → BitVec 32) (L : List Trm) (n : Nat) : Fd w F L n w.heap.size [] (.map []) [(n, false)] (.slice (some ⟨w.heap.size + 1, 0, none⟩) 1 1) ((w.alloc (.map #[] 0)).alloc (.cells #[.int .i64 (n : Int)] 3)) := by
  have o1 := World.ownsMap_made (H := Unit) w Try.prog 3 (plainElem Try.prog 31)
  refine ⟨((Below.refl _ w).alloc (Nat.le_refl _) _).alloc (by rw [World.size_alloc]; omega) _, Nat.le_refl _, Kn.nil F n, o1.alloc _, Stack.start L n, ?_⟩
  have e := heap_alloc_new (w.alloc (.map #[] 0)) (.cells #[.int .i64 (n : Int)] 3)
  rw [World.size_alloc] at e
  exact ⟨rfl, .inr ⟨w.heap.size + 1, 1, #[.int .i64 (n : Int)], rfl, by omega, e, Nat.le_refl _, by unfold maxLen; omega, rfl, rfl⟩⟩
end Go.Proofs.Ythlefedljgmmfaa
