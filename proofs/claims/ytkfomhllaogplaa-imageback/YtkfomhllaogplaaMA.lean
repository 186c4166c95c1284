/-
  Plain facts on a memory's bytes that are not 0, as a list of addresses and bytes by rising addresses; what a map's datum makes of it. No program in sight.
-/
import Derived.Maps.OwnSet
import Derived.Maps.RangeWalk
import Derived.WalkArith
namespace Go.Proofs.Ytkfomhllaogplaa
open Go.RowKit Go.Maps

namespace Mm

abbrev Cs := List (Int × Int)

def look : Cs → Int → Int
  | [], _ => 0
  | p :: r, a => if p.1 = a then p.2 else look r a
def ins (a c : Int) : Cs → Cs
  | [] => [(a, c)]
  | p :: r => if a < p.1 then (a, c) :: p :: r else if p.1 = a then (a, c) :: r else p :: ins a c r
def del (a : Int) (l : Cs) : Cs := l.filter fun p => !(p.1 == a)
def set (l : Cs) (a c : Int) : Cs := if c = 0 then del a l else ins a c l

structure Rise (l : Cs) : Prop where
  up : l.Pairwise fun p q => p.1 < q.1
  ok : ∀ p ∈ l, 0 ≤ p.1 ∧ p.1 < 4294967296 ∧ 1 ≤ p.2 ∧ p.2 ≤ 255

def ent (p : Int × Int) : Lit × DataW Unit := (.int .u32 p.1, .lit (.int .u8 p.2))
def D (l : Cs) : DataW Unit := .map (l.map ent)

theorem rise_nil : Rise [] := ⟨List.Pairwise.nil, by simp⟩
theorem Rise.tail {p : Int × Int} {l : Cs} (h : Rise (p :: l)) : Rise l := ⟨(List.pairwise_cons.1 h.up).2, fun q hq => h.ok q (List.mem_cons_of_mem _ hq)⟩
theorem Rise.head {p : Int × Int} {l : Cs} (h : Rise (p :: l)) : ∀ q ∈ l, p.1 < q.1 := (List.pairwise_cons.1 h.up).1

theorem mem_ins {a c : Int} {q : Int × Int} : ∀ {l : Cs}, q ∈ ins a c l → q = (a, c) ∨ q ∈ l
  | [], h => by simp [ins] at h; exact .inl h
  | p :: r, h => by
    unfold ins at h
    split at h
    · rcases List.mem_cons.1 h with e | e
      · exact .inl e
      · exact .inr e
    · split at h
      · rcases List.mem_cons.1 h with e | e
        · exact .inl e
        · exact .inr (List.mem_cons_of_mem _ e)
      · rcases List.mem_cons.1 h with e | e
        · exact .inr (by rw [e]; exact List.mem_cons_self)
        · rcases mem_ins e with e' | e'
          · exact .inl e'
          · exact .inr (List.mem_cons_of_mem _ e')

theorem rise_ins {a c : Int} (ha : 0 ≤ a ∧ a < 4294967296) (hc : 1 ≤ c ∧ c ≤ 255) : ∀ {l : Cs}, Rise l → Rise (ins a c l)
  | [], _ => ⟨by simp [ins], by simp [ins]; omega⟩
  | p :: r, h => by
    have hr := rise_ins ha hc h.tail
    unfold ins
    split
    · rename_i hlt
      refine ⟨List.pairwise_cons.2 ⟨fun q hq => ?_, h.up⟩, fun q hq => ?_⟩
      · rcases List.mem_cons.1 hq with rfl | e
        · exact hlt
        · exact Int.lt_trans hlt (h.head q e)
      · rcases List.mem_cons.1 hq with rfl | e
        · exact ⟨ha.1, ha.2, hc.1, hc.2⟩
        · exact h.ok q e
    · split
      · rename_i _ he
        refine ⟨List.pairwise_cons.2 ⟨fun q hq => ?_, h.tail.up⟩, fun q hq => ?_⟩
        · have := h.head q hq; show a < q.1; omega
        · rcases List.mem_cons.1 hq with rfl | e
          · exact ⟨ha.1, ha.2, hc.1, hc.2⟩
          · exact h.ok q (List.mem_cons_of_mem _ e)
      · rename_i h1 h2
        refine ⟨List.pairwise_cons.2 ⟨fun q hq => ?_, hr.up⟩, fun q hq => ?_⟩
        · rcases mem_ins hq with rfl | e
          · show p.1 < a; omega
          · exact h.head q e
        · rcases List.mem_cons.1 hq with rfl | e
          · exact h.ok _ List.mem_cons_self
          · exact hr.ok q e

theorem rise_del {a : Int} {l : Cs} (h : Rise l) : Rise (del a l) := ⟨h.up.filter _, fun p hp => h.ok p (List.mem_filter.1 hp).1⟩
theorem rise_set {a c : Int} {l : Cs} (h : Rise l) (ha : 0 ≤ a ∧ a < 4294967296) (hc : 0 ≤ c ∧ c ≤ 255) : Rise (set l a c) := by
  unfold set; split
  · exact rise_del h
  · exact rise_ins ha (by omega) h

theorem look_none {a : Int} : ∀ {l : Cs}, (∀ p ∈ l, p.1 ≠ a) → look l a = 0
  | [], _ => rfl
  | p :: r, h => by unfold look; rw [if_neg (h p List.mem_cons_self)]; exact look_none fun q hq => h q (List.mem_cons_of_mem _ hq)
theorem look_ins {a c x : Int} : ∀ {l : Cs}, look (ins a c l) x = if x = a then c else look l x
  | [] => by simp [ins, look]; by_cases h : x = a <;> simp [h]; intro e; exact absurd e.symm h
  | p :: r => by
    have ih := @look_ins a c x r
    unfold ins
    split
    · simp only [look]; by_cases h : a = x
      · rw [if_pos h, if_pos h.symm]
      · rw [if_neg h, if_neg (Ne.symm h)]
    · split
      · rename_i _ he
        simp only [look]; by_cases h : a = x
        · rw [if_pos h, if_pos h.symm]
        · rw [if_neg h, if_neg (Ne.symm h), if_neg (by rw [he]; exact h)]
      · rename_i _ he
        simp only [look]; rw [ih]
        by_cases h : p.1 = x
        · rw [if_pos h, if_pos h, if_neg (by rw [← h]; exact he)]
        · rw [if_neg h, if_neg h]
theorem look_del {a x : Int} : ∀ {l : Cs}, look (del a l) x = if x = a then 0 else look l x
  | [] => by simp [del, look]
  | p :: r => by
    have ih := @look_del a x r
    unfold del at ih ⊢
    rw [List.filter_cons]
    by_cases h : p.1 = a
    · have e : (!(p.1 == a)) = false := by simp [h]
      simp only [e, Bool.false_eq_true, if_false]
      rw [ih]
      by_cases hx : x = a
      · rw [if_pos hx, if_pos hx]
      · rw [if_neg hx, if_neg hx, look, if_neg (by rw [h]; exact Ne.symm hx)]
    · have e : (!(p.1 == a)) = true := by simp [h]
      simp only [e, if_true, look]
      rw [ih]
      by_cases hx : p.1 = x
      · rw [if_pos hx, if_pos hx, if_neg (by rw [← hx]; exact h)]
      · rw [if_neg hx, if_neg hx]
theorem look_set {l : Cs} {a c x : Int} : look (set l a c) x = if x = a then c else look l x := by
  unfold set; split
  · rename_i h; rw [look_del, h]
  · exact look_ins
theorem look_range {l : Cs} (h : Rise l) (a : Int) : 0 ≤ look l a ∧ look l a ≤ 255 := by
  induction l with
  | nil => simp [look]
  | cons p r ih =>
    unfold look; split
    · have := h.ok p List.mem_cons_self; omega
    · exact ih h.tail
theorem look_mem {l : Cs} (h : Rise l) {p : Int × Int} (hp : p ∈ l) : look l p.1 = p.2 := by
  induction l with
  | nil => simp at hp
  | cons q r ih =>
    unfold look
    rcases List.mem_cons.1 hp with rfl | e
    · rw [if_pos rfl]
    · have := h.head p e; rw [if_neg (by omega)]; exact ih h.tail e
theorem mem_look {l : Cs} {a : Int} (h : look l a ≠ 0) : (a, look l a) ∈ l := by
  induction l with
  | nil => simp [look] at h
  | cons p r ih =>
    unfold look at h ⊢
    by_cases e : p.1 = a
    · rw [if_pos e]; rw [← e]; exact List.mem_cons_self
    · rw [if_neg e] at h ⊢; exact List.mem_cons_of_mem _ (ih h)

theorem eq_of_mem : ∀ {l l' : Cs}, Rise l → Rise l' → (∀ p, p ∈ l ↔ p ∈ l') → l = l'
  | [], [], _, _, _ => rfl
  | [], p :: r, _, _, h => by have := (h p).2 List.mem_cons_self; simp at this
  | p :: r, [], _, _, h => by have := (h p).1 List.mem_cons_self; simp at this
  | p :: r, q :: s, h1, h2, h => by
    have hpq : p = q := by
      rcases List.mem_cons.1 ((h p).1 List.mem_cons_self) with e | e
      · exact e
      · rcases List.mem_cons.1 ((h q).2 List.mem_cons_self) with e' | e'
        · exact e'.symm
        · have a1 := h2.head p e; have a2 := h1.head q e'; omega
    subst hpq
    refine congrArg (p :: ·) (eq_of_mem h1.tail h2.tail fun x => ?_)
    constructor
    · intro hx
      rcases List.mem_cons.1 ((h x).1 (List.mem_cons_of_mem _ hx)) with e | e
      · have := h1.head x hx; rw [e] at this; omega
      · exact e
    · intro hx
      rcases List.mem_cons.1 ((h x).2 (List.mem_cons_of_mem _ hx)) with e | e
      · have := h2.head x hx; rw [e] at this; omega
      · exact e
theorem ext {l l' : Cs} (h : Rise l) (h' : Rise l') (e : ∀ a, look l a = look l' a) : l = l' := by
  refine eq_of_mem h h' fun p => ⟨fun hp => ?_, fun hp => ?_⟩
  · have a := look_mem h hp; have b := h.ok p hp; have c := mem_look (l := l') (a := p.1) (by rw [← e, a]; omega)
    rwa [← e, a] at c
  · have a := look_mem h' hp; have b := h'.ok p hp; have c := mem_look (l := l) (a := p.1) (by rw [e, a]; omega)
    rwa [e, a] at c

theorem length_from : ∀ {l : Cs} {lo : Int}, l.Pairwise (fun p q => p.1 < q.1) → (∀ p ∈ l, lo ≤ p.1 ∧ p.1 < 4294967296) → lo ≤ 4294967296 → (l.length : Int) ≤ 4294967296 - lo
  | [], lo, _, _, h => by simp; omega
  | p :: r, lo, hp, hr, h => by
    have a := hr p List.mem_cons_self
    have := @length_from r (p.1 + 1) (List.pairwise_cons.1 hp).2 (fun q hq => by have := (List.pairwise_cons.1 hp).1 q hq; have := hr q (List.mem_cons_of_mem _ hq); omega) (by omega)
    simp; omega
theorem Rise.length {l : Cs} (h : Rise l) : l.length ≤ 4294967296 := by
  have := length_from (lo := 0) h.up (fun p hp => by have := h.ok p hp; omega) (by omega); omega

/-! ### the map's datum -/
theorem same_u32 (a b : Int) : (Lit.int .u32 a).sameKey (.int .u32 b) = (a == b) := by simp only [Lit.sameKey]; by_cases h : a = b <;> simp [h]
theorem before_u32 (a b : Int) : (Lit.int .u32 a).before (.int .u32 b) = decide (a < b) := by simp [Lit.before]
theorem D_atKey (l : Cs) (a : Int) : (D l).atKey (.int .u32 a) (.lit (.int .u8 0)) = .lit (.int .u8 (look l a)) := by
  unfold D DataW.atKey
  induction l with
  | nil => simp [look]
  | cons p r ih =>
    simp only [List.map_cons, List.find?_cons, look]
    by_cases h : p.1 = a
    · have e : (ent p).1.sameKey (.int .u32 a) = true := by simp [ent, same_u32, h]
      rw [e, if_pos h]; simp [ent]
    · have e : (ent p).1.sameKey (.int .u32 a) = false := by simp [ent, same_u32, h]
      rw [e, if_neg h]; exact ih
theorem filter_ent (a : Int) (l : Cs) : (l.map ent).filter (fun p => !p.1.sameKey (.int .u32 a)) = (del a l).map ent := by
  unfold del
  rw [List.filter_map]
  congr 2
  funext p; simp only [Function.comp, ent, same_u32]
theorem D_del (l : Cs) (a : Int) : (D l).del (.int .u32 a) = D (del a l) := by
  unfold D DataW.del; simp only; rw [filter_ent]
theorem insert_ent {a c : Int} : ∀ {l : Cs}, Rise l → DataW.insert (ent (a, c)) ((del a l).map ent) = (ins a c l).map ent
  | [], _ => rfl
  | p :: r, h => by
    have ih := @insert_ent a c r h.tail
    unfold del at ih ⊢
    rw [List.filter_cons]
    by_cases he : p.1 = a
    · have e : (!(p.1 == a)) = false := by simp [he]
      have hf : r.filter (fun q => !(q.1 == a)) = r := List.filter_eq_self.2 fun q hq => by have := h.head q hq; simp; omega
      simp only [e, Bool.false_eq_true, if_false]
      rw [hf]
      have e2 : ins a c (p :: r) = (a, c) :: r := by unfold ins; rw [if_neg (by omega), if_pos he]
      rw [e2]
      cases r with
      | nil => rfl
      | cons q s =>
        simp only [List.map_cons, DataW.insert]
        have hq := h.head q List.mem_cons_self
        have : (ent (a, c)).1.before (ent q).1 = true := by simp [ent, before_u32]; omega
        rw [if_pos this]
    · have e : (!(p.1 == a)) = true := by simp [he]
      simp only [e, if_true, List.map_cons, DataW.insert]
      by_cases hlt : a < p.1
      · have hb : (ent (a, c)).1.before (ent p).1 = true := by simp [ent, before_u32, hlt]
        have hf : r.filter (fun q => !(q.1 == a)) = r := List.filter_eq_self.2 fun q hq => by have := h.head q hq; simp; omega
        rw [if_pos hb, hf]
        unfold ins; rw [if_pos hlt]; rfl
      · have hb : ¬ (ent (a, c)).1.before (ent p).1 = true := by simp [ent, before_u32, hlt]
        rw [if_neg hb, ih]
        conv => rhs; unfold ins
        rw [if_neg hlt, if_neg he]; rfl
theorem D_put {l : Cs} (h : Rise l) (a c : Int) : (D l).put (.int .u32 a) (.lit (.int .u8 c)) = D (ins a c l) := by
  unfold D DataW.put; simp only; rw [filter_ent]; exact congrArg DataW.map (insert_ent h)
theorem size_D (l : Cs) : Maps.size (D l) = l.length := by simp [Maps.size, D]
theorem has_D (l : Cs) (a : Int) : Maps.has (D l) (.int .u32 a) = l.any (fun p => p.1 == a) := by
  show (l.map ent).any _ = _
  rw [List.any_map]; congr 1
  funext p; simp only [Function.comp, ent, same_u32]
theorem wf_u32 {a : Int} (h : 0 ≤ a ∧ a < 4294967296) : (Lit.int .u32 a).wf = true := WalkArith.wf_u32 (by omega)
theorem wf_u8 {a : Int} (h : 0 ≤ a ∧ a ≤ 255) : (Lit.int .u8 a).wf = true := WalkArith.wf_u8 h
end Mm
end Go.Proofs.Ytkfomhllaogplaa
