/-
  Plain facts on a memory's bytes that are not 0, as a list of addresses and bytes by rising addresses; what a map's datum makes of it. No program in sight.
  A memory in memory: a pointer to a struct of one field, which leads to a map that reads as the list of its bytes that are not 0. New and set.
  Load, Store and Put of a memory: what they answer and what they leave.
-/
import Derived.Maps.OwnSet
import Derived.Maps.RangeWalk
import Derived.WalkArith
import Derived.Test.YtilphdfobflbiaaGreatProg
import Derived.WalkKit
import Derived.Handy
import Derived.RangeFuncRecord
import Derived.Laws.BitsAllLaws
import Derived.Laws.ShiftsVarLaws
import Derived.Deep.Light

namespace Go.Proofs.YtilphdfobflbiaaGreat
open Go.RowKit Go.Maps

namespace Mm

abbrev Cs := List (Int × Int)

def look : Cs → Int → Int
  | [], _ => 0
  | p :: r, a => if p.1 = a then p.2 else look r a
def ins (a c : Int) : Cs → Cs
  | [] => [(a, c)]
  | p :: r => if a < p.1 then (a, c) :: p :: r else if p.1 = a then (a, c) :: r else p :: ins a c r
def del (a : Int) (l : Cs) : Cs := l.filter fun p => !(p.1 == a)
def set (l : Cs) (a c : Int) : Cs := if c = 0 then del a l else ins a c l

structure Rise (l : Cs) : Prop where
  up : l.Pairwise fun p q => p.1 < q.1
  ok : ∀ p ∈ l, 0 ≤ p.1 ∧ p.1 < 4294967296 ∧ 1 ≤ p.2 ∧ p.2 ≤ 255

def ent (p : Int × Int) : Lit × DataW Unit := (.int .u32 p.1, .lit (.int .u8 p.2))
def D (l : Cs) : DataW Unit := .map (l.map ent)

theorem rise_nil : Rise [] := ⟨List.Pairwise.nil, by simp⟩
theorem Rise.tail {p : Int × Int} {l : Cs} (h : Rise (p :: l)) : Rise l := ⟨(List.pairwise_cons.1 h.up).2, fun q hq => h.ok q (List.mem_cons_of_mem _ hq)⟩
theorem Rise.head {p : Int × Int} {l : Cs} (h : Rise (p :: l)) : ∀ q ∈ l, p.1 < q.1 := (List.pairwise_cons.1 h.up).1

theorem mem_ins {a c : Int} {q : Int × Int} : ∀ {l : Cs}, q ∈ ins a c l → q = (a, c) ∨ q ∈ l
  | [], h => by simp [ins] at h; exact .inl h
  | p :: r, h => by
    unfold ins at h
    split at h
    · rcases List.mem_cons.1 h with e | e
      · exact .inl e
      · exact .inr e
    · split at h
      · rcases List.mem_cons.1 h with e | e
        · exact .inl e
        · exact .inr (List.mem_cons_of_mem _ e)
      · rcases List.mem_cons.1 h with e | e
        · exact .inr (by rw [e]; exact List.mem_cons_self)
        · rcases mem_ins e with e' | e'
          · exact .inl e'
          · exact .inr (List.mem_cons_of_mem _ e')

theorem rise_ins {a c : Int} (ha : 0 ≤ a ∧ a < 4294967296) (hc : 1 ≤ c ∧ c ≤ 255) : ∀ {l : Cs}, Rise l → Rise (ins a c l)
  | [], _ => ⟨by simp [ins], by simp [ins]; omega⟩
  | p :: r, h => by
    have hr := rise_ins ha hc h.tail
    unfold ins
    split
    · rename_i hlt
      refine ⟨List.pairwise_cons.2 ⟨fun q hq => ?_, h.up⟩, fun q hq => ?_⟩
      · rcases List.mem_cons.1 hq with rfl | e
        · exact hlt
        · exact Int.lt_trans hlt (h.head q e)
      · rcases List.mem_cons.1 hq with rfl | e
        · exact ⟨ha.1, ha.2, hc.1, hc.2⟩
        · exact h.ok q e
    · split
      · rename_i _ he
        refine ⟨List.pairwise_cons.2 ⟨fun q hq => ?_, h.tail.up⟩, fun q hq => ?_⟩
        · have := h.head q hq; show a < q.1; omega
        · rcases List.mem_cons.1 hq with rfl | e
          · exact ⟨ha.1, ha.2, hc.1, hc.2⟩
          · exact h.ok q (List.mem_cons_of_mem _ e)
      · rename_i h1 h2
        refine ⟨List.pairwise_cons.2 ⟨fun q hq => ?_, hr.up⟩, fun q hq => ?_⟩
        · rcases mem_ins hq with rfl | e
          · show p.1 < a; omega
          · exact h.head q e
        · rcases List.mem_cons.1 hq with rfl | e
          · exact h.ok _ List.mem_cons_self
          · exact hr.ok q e

theorem rise_del {a : Int} {l : Cs} (h : Rise l) : Rise (del a l) := ⟨h.up.filter _, fun p hp => h.ok p (List.mem_filter.1 hp).1⟩
theorem rise_set {a c : Int} {l : Cs} (h : Rise l) (ha : 0 ≤ a ∧ a < 4294967296) (hc : 0 ≤ c ∧ c ≤ 255) : Rise (set l a c) := by
  unfold set; split
  · exact rise_del h
  · exact rise_ins ha (by omega) h

theorem look_none {a : Int} : ∀ {l : Cs}, (∀ p ∈ l, p.1 ≠ a) → look l a = 0
  | [], _ => rfl
  | p :: r, h => by unfold look; rw [if_neg (h p List.mem_cons_self)]; exact look_none fun q hq => h q (List.mem_cons_of_mem _ hq)
theorem look_ins {a c x : Int} : ∀ {l : Cs}, look (ins a c l) x = if x = a then c else look l x
  | [] => by simp [ins, look]; by_cases h : x = a <;> simp [h]; intro e; exact absurd e.symm h
  | p :: r => by
    have ih := @look_ins a c x r
    unfold ins
    split
    · simp only [look]; by_cases h : a = x
      · rw [if_pos h, if_pos h.symm]
      · rw [if_neg h, if_neg (Ne.symm h)]
    · split
      · rename_i _ he
        simp only [look]; by_cases h : a = x
        · rw [if_pos h, if_pos h.symm]
        · rw [if_neg h, if_neg (Ne.symm h), if_neg (by rw [he]; exact h)]
      · rename_i _ he
        simp only [look]; rw [ih]
        by_cases h : p.1 = x
        · rw [if_pos h, if_pos h, if_neg (by rw [← h]; exact he)]
        · rw [if_neg h, if_neg h]
theorem look_del {a x : Int} : ∀ {l : Cs}, look (del a l) x = if x = a then 0 else look l x
  | [] => by simp [del, look]
  | p :: r => by
    have ih := @look_del a x r
    unfold del at ih ⊢
    rw [List.filter_cons]
    by_cases h : p.1 = a
    · have e : (!(p.1 == a)) = false := by simp [h]
      simp only [e, Bool.false_eq_true, if_false]
      rw [ih]
      by_cases hx : x = a
      · rw [if_pos hx, if_pos hx]
      · rw [if_neg hx, if_neg hx, look, if_neg (by rw [h]; exact Ne.symm hx)]
    · have e : (!(p.1 == a)) = true := by simp [h]
      simp only [e, if_true, look]
      rw [ih]
      by_cases hx : p.1 = x
      · rw [if_pos hx, if_pos hx, if_neg (by rw [← hx]; exact h)]
      · rw [if_neg hx, if_neg hx]
theorem look_set {l : Cs} {a c x : Int} : look (set l a c) x = if x = a then c else look l x := by
  unfold set; split
  · rename_i h; rw [look_del, h]
  · exact look_ins
theorem look_range {l : Cs} (h : Rise l) (a : Int) : 0 ≤ look l a ∧ look l a ≤ 255 := by
  induction l with
  | nil => simp [look]
  | cons p r ih =>
    unfold look; split
    · have := h.ok p List.mem_cons_self; omega
    · exact ih h.tail
theorem look_mem {l : Cs} (h : Rise l) {p : Int × Int} (hp : p ∈ l) : look l p.1 = p.2 := by
  induction l with
  | nil => simp at hp
  | cons q r ih =>
    unfold look
    rcases List.mem_cons.1 hp with rfl | e
    · rw [if_pos rfl]
    · have := h.head p e; rw [if_neg (by omega)]; exact ih h.tail e
theorem mem_look {l : Cs} {a : Int} (h : look l a ≠ 0) : (a, look l a) ∈ l := by
  induction l with
  | nil => simp [look] at h
  | cons p r ih =>
    unfold look at h ⊢
    by_cases e : p.1 = a
    · rw [if_pos e]; rw [← e]; exact List.mem_cons_self
    · rw [if_neg e] at h ⊢; exact List.mem_cons_of_mem _ (ih h)

theorem eq_of_mem : ∀ {l l' : Cs}, Rise l → Rise l' → (∀ p, p ∈ l ↔ p ∈ l') → l = l'
  | [], [], _, _, _ => rfl
  | [], p :: r, _, _, h => by have := (h p).2 List.mem_cons_self; simp at this
  | p :: r, [], _, _, h => by have := (h p).1 List.mem_cons_self; simp at this
  | p :: r, q :: s, h1, h2, h => by
    have hpq : p = q := by
      rcases List.mem_cons.1 ((h p).1 List.mem_cons_self) with e | e
      · exact e
      · rcases List.mem_cons.1 ((h q).2 List.mem_cons_self) with e' | e'
        · exact e'.symm
        · have a1 := h2.head p e; have a2 := h1.head q e'; omega
    subst hpq
    refine congrArg (p :: ·) (eq_of_mem h1.tail h2.tail fun x => ?_)
    constructor
    · intro hx
      rcases List.mem_cons.1 ((h x).1 (List.mem_cons_of_mem _ hx)) with e | e
      · have := h1.head x hx; rw [e] at this; omega
      · exact e
    · intro hx
      rcases List.mem_cons.1 ((h x).2 (List.mem_cons_of_mem _ hx)) with e | e
      · have := h2.head x hx; rw [e] at this; omega
      · exact e
theorem ext {l l' : Cs} (h : Rise l) (h' : Rise l') (e : ∀ a, look l a = look l' a) : l = l' := by
  refine eq_of_mem h h' fun p => ⟨fun hp => ?_, fun hp => ?_⟩
  · have a := look_mem h hp; have b := h.ok p hp; have c := mem_look (l := l') (a := p.1) (by rw [← e, a]; omega)
    rwa [← e, a] at c
  · have a := look_mem h' hp; have b := h'.ok p hp; have c := mem_look (l := l) (a := p.1) (by rw [e, a]; omega)
    rwa [e, a] at c

theorem length_from : ∀ {l : Cs} {lo : Int}, l.Pairwise (fun p q => p.1 < q.1) → (∀ p ∈ l, lo ≤ p.1 ∧ p.1 < 4294967296) → lo ≤ 4294967296 → (l.length : Int) ≤ 4294967296 - lo
  | [], lo, _, _, h => by simp; omega
  | p :: r, lo, hp, hr, h => by
    have a := hr p List.mem_cons_self
    have := @length_from r (p.1 + 1) (List.pairwise_cons.1 hp).2 (fun q hq => by have := (List.pairwise_cons.1 hp).1 q hq; have := hr q (List.mem_cons_of_mem _ hq); omega) (by omega)
    simp; omega
theorem Rise.length {l : Cs} (h : Rise l) : l.length ≤ 4294967296 := by
  have := length_from (lo := 0) h.up (fun p hp => by have := h.ok p hp; omega) (by omega); omega

/-! ### the map's datum -/
theorem same_u32 (a b : Int) : (Lit.int .u32 a).sameKey (.int .u32 b) = (a == b) := by simp only [Lit.sameKey]; by_cases h : a = b <;> simp [h]
theorem before_u32 (a b : Int) : (Lit.int .u32 a).before (.int .u32 b) = decide (a < b) := by simp [Lit.before]
theorem D_atKey (l : Cs) (a : Int) : (D l).atKey (.int .u32 a) (.lit (.int .u8 0)) = .lit (.int .u8 (look l a)) := by
  unfold D DataW.atKey
  induction l with
  | nil => simp [look]
  | cons p r ih =>
    simp only [List.map_cons, List.find?_cons, look]
    by_cases h : p.1 = a
    · have e : (ent p).1.sameKey (.int .u32 a) = true := by simp [ent, same_u32, h]
      rw [e, if_pos h]; simp [ent]
    · have e : (ent p).1.sameKey (.int .u32 a) = false := by simp [ent, same_u32, h]
      rw [e, if_neg h]; exact ih
theorem filter_ent (a : Int) (l : Cs) : (l.map ent).filter (fun p => !p.1.sameKey (.int .u32 a)) = (del a l).map ent := by
  unfold del
  rw [List.filter_map]
  congr 2
  funext p; simp only [Function.comp, ent, same_u32]
theorem D_del (l : Cs) (a : Int) : (D l).del (.int .u32 a) = D (del a l) := by
  unfold D DataW.del; simp only; rw [filter_ent]
theorem insert_ent {a c : Int} : ∀ {l : Cs}, Rise l → DataW.insert (ent (a, c)) ((del a l).map ent) = (ins a c l).map ent
  | [], _ => rfl
  | p :: r, h => by
    have ih := @insert_ent a c r h.tail
    unfold del at ih ⊢
    rw [List.filter_cons]
    by_cases he : p.1 = a
    · have e : (!(p.1 == a)) = false := by simp [he]
      have hf : r.filter (fun q => !(q.1 == a)) = r := List.filter_eq_self.2 fun q hq => by have := h.head q hq; simp; omega
      simp only [e, Bool.false_eq_true, if_false]
      rw [hf]
      have e2 : ins a c (p :: r) = (a, c) :: r := by unfold ins; rw [if_neg (by omega), if_pos he]
      rw [e2]
      cases r with
      | nil => rfl
      | cons q s =>
        simp only [List.map_cons, DataW.insert]
        have hq := h.head q List.mem_cons_self
        have : (ent (a, c)).1.before (ent q).1 = true := by simp [ent, before_u32]; omega
        rw [if_pos this]
    · have e : (!(p.1 == a)) = true := by simp [he]
      simp only [e, if_true, List.map_cons, DataW.insert]
      by_cases hlt : a < p.1
      · have hb : (ent (a, c)).1.before (ent p).1 = true := by simp [ent, before_u32, hlt]
        have hf : r.filter (fun q => !(q.1 == a)) = r := List.filter_eq_self.2 fun q hq => by have := h.head q hq; simp; omega
        rw [if_pos hb, hf]
        unfold ins; rw [if_pos hlt]; rfl
      · have hb : ¬ (ent (a, c)).1.before (ent p).1 = true := by simp [ent, before_u32, hlt]
        rw [if_neg hb, ih]
        conv => rhs; unfold ins
        rw [if_neg hlt, if_neg he]; rfl
theorem D_put {l : Cs} (h : Rise l) (a c : Int) : (D l).put (.int .u32 a) (.lit (.int .u8 c)) = D (ins a c l) := by
  unfold D DataW.put; simp only; rw [filter_ent]; exact congrArg DataW.map (insert_ent h)
theorem size_D (l : Cs) : Maps.size (D l) = l.length := by simp [Maps.size, D]
theorem has_D (l : Cs) (a : Int) : Maps.has (D l) (.int .u32 a) = l.any (fun p => p.1 == a) := by
  show (l.map ent).any _ = _
  rw [List.any_map]; congr 1
  funext p; simp only [Function.comp, ent, same_u32]
theorem wf_u32 {a : Int} (h : 0 ≤ a ∧ a < 4294967296) : (Lit.int .u32 a).wf = true := WalkArith.wf_u32 (by omega)
theorem wf_u8 {a : Int} (h : 0 ≤ a ∧ a ≤ 255) : (Lit.int .u8 a).wf = true := WalkArith.wf_u8 h
end Mm
end Go.Proofs.YtilphdfobflbiaaGreat
namespace Go.Proofs.YtilphdfobflbiaaGreat
open Go.RowKit Go.Maps Mm

theorem lawU : Keyed Tryz.prog 22 := int_keyed Tryz.underlying22
theorem zeroB (w : World) : (zeroValue 5).run Tryz.prog w = .ok (.int .u8 0) w := by kernel_rfl

/-- The memory behind the pointer to block pb: its map is block bm, its bytes that are not 0 are l. -/
structure MemAt (w : World) (pb bm : Nat) (l : Cs) : Prop where
  box : w.heap[pb]? = some (.cells #[.map (some bm)] 73 (0, 0))
  rise : Rise l
  own : w.ownsMap Tryz.prog 22 (plainElem (H := Unit) Tryz.prog 5) bm l.length (D l)

theorem ownsMap_tight {w : World} {P : Program} {k : TypeId} {R : Value → Option (DataW Unit × List MemPlace)} {b n : Nat} {l : Cs} (h : w.ownsMap P k R b n (D l)) : w.ownsMap P k R b l.length (D l) := by
  obtain ⟨es, clock, hb, F, _, hD⟩ := h
  refine ⟨es, clock, hb, F, ?_, hD⟩
  have e : Maps.size (D l) = es.size := by rw [hD]; simp [Maps.size, length_sorted]
  rw [size_D] at e; omega

theorem MemAt.cell {w : World} {pb bm : Nat} {l : Cs} (h : MemAt w pb bm l) : w.cell? ⟨pb, 0, none⟩ = some (.map (some bm)) := by
  simp [World.cell?, h.box]
theorem MemAt.ne {w : World} {pb bm : Nat} {l : Cs} (h : MemAt w pb bm l) : pb ≠ bm := by
  obtain ⟨es, clock, hb, _⟩ := h.own
  intro e; have := h.box; rw [e, hb] at this; cases this
theorem MemAt.lt {w : World} {pb bm : Nat} {l : Cs} (h : MemAt w pb bm l) : pb < w.heap.size := (Array.getElem?_eq_some_iff.1 h.box).1
theorem MemAt.lt' {w : World} {pb bm : Nat} {l : Cs} (h : MemAt w pb bm l) : bm < w.heap.size := h.own.lt
theorem MemAt.kept {w w' : World} {pb bm : Nat} {l : Cs} {row : Option Nat} (h : MemAt w pb bm l) (hg : w.grownBy w' row) (h1 : some pb ≠ row) (h2 : some bm ≠ row) : MemAt w' pb bm l :=
  ⟨(hg.block pb h.lt h1).trans h.box, h.rise, h.own.kept hg h2⟩
theorem MemAt.below {w w' : World} {pb bm : Nat} {l : Cs} (h : MemAt w pb bm l) (hb : Below w.heap.size w w') : MemAt w' pb bm l :=
  h.kept (row := none) ⟨hb.os, hb.tape, hb.output, hb.size, fun k hk _ => hb.block k hk⟩ (by simp) (by simp)

set_option maxHeartbeats 1000000 in
theorem new_any (w : World) : Calls Tryz.prog 14 #[] w fun e w' => e = .returned (.pointer (some ⟨w.heap.size + 1, 0, none⟩)) ∧ MemAt w' (w.heap.size + 1) w.heap.size [] ∧ Below w.heap.size w w' ∧ w'.heap.size = w.heap.size + 2 := by
  have hmm := @run_makeMap Tryz.prog
  go_enter Tryz.func14, Tryz.ntmps14
  go_wp2
  go_ret
  refine ⟨rfl, ⟨?_, rise_nil, ?_⟩, ?_, by simp⟩
  · have := World.alloc_heap_new (w.alloc (.map #[] 0)) (.cells #[.map (some w.heap.size)] 73)
    simpa using this
  · exact (World.ownsMap_made w _ _ _).alloc _
  · exact ((Below.refl _ _).alloc (Nat.le_refl _) _).alloc (by simp) _

theorem grown_of_turned {w w' : World} {b : Nat} (h : w.mapTurned w' b) : w.grownBy w' (some b) := h.grown

set_option maxHeartbeats 1000000 in
theorem set_any {pb bm : Nat} {l : Cs} {a c : Int} (w : World) (h : MemAt w pb bm l) (ha : 0 ≤ a ∧ a < 4294967296) (hc : 0 ≤ c ∧ c ≤ 255) :
    Calls Tryz.prog 33 #[.pointer (some ⟨pb, 0, none⟩), .int .u32 a, .int .u8 c] w fun e w' => e = .returned (.tuple #[]) ∧ MemAt w' pb bm (Mm.set l a c) ∧ w.grownBy w' (some bm) := by
  have c0 := h.cell
  have hown := h.own
  have hl := h.rise.length
  have hkey : keyOf Tryz.prog 22 (.int .u32 a) = some (.int .u32 a) := keyOf_int_mk Tryz.underlying22 (wf_u32 ha)
  have hne := h.ne
  by_cases h0 : c = 0
  · subst h0
    go_enter Tryz.func33, Tryz.ntmps33
    go_wp2_with (first
      | (at_delete; refine wpList_delete_own _ rfl _ _ 71 22 rfl 5 lawU Tryz.underlying71 _ bm l.length _ rfl hown _ _ rfl hkey ?_; intro w1 hown1 hturn1)
      | go_in)
    refine bodyPost_ret (results_none rfl _ _ _) rfl ?_
    have hg := hturn1.grown
    rw [D_del] at hown1
    refine ⟨rfl, ⟨(hg.block pb h.lt (by simpa using hne)).trans h.box, rise_set h.rise ha hc, ?_⟩, hg⟩
    have : Mm.set l a 0 = del a l := by unfold Mm.set; rw [if_pos rfl]
    rw [this]; exact ownsMap_tight hown1
  · have hb : (c == 0) = false := by simp [h0]
    go_enter Tryz.func33, Tryz.ntmps33
    go_wp2_with (first
      | (at_mapUpdate; refine wpList_mapUpdate_own _ rfl _ _ _ 71 rfl 22 5 lawU Tryz.underlying71 _ bm l.length _ rfl hown (by unfold maxLen; omega) _ _ _ rfl rfl hkey _ [] (plainElem_int Tryz.underlying5 (wf_u8 hc)) ?_; intro w1 hown1 hgrow1)
      | go_in)
    go_end0
    rw [D_put h.rise] at hown1
    refine ⟨rfl, ⟨(hgrow1.block pb h.lt (by simpa using hne)).trans h.box, rise_set h.rise ha hc, ?_⟩, hgrow1⟩
    have : Mm.set l a c = ins a c l := by unfold Mm.set; rw [if_neg h0]
    rw [this]; exact ownsMap_tight hown1
end Go.Proofs.YtilphdfobflbiaaGreat
namespace Go.Proofs.YtilphdfobflbiaaGreat
open Go.RowKit Go.Maps Mm

namespace Mm
def num (l : Cs) (a : Int) : Nat → Int
  | 0 => 0
  | k + 1 => num l a k + look l ((a + k) % 4294967296) * 256 ^ k
def sto (l : Cs) (a v : Int) : Nat → Cs
  | 0 => l
  | k + 1 => set (sto l a v k) ((a + k) % 4294967296) (v / 256 ^ k % 256)
def puts (l : Cs) (a : Int) (s : List UInt8) : Nat → Cs
  | 0 => l
  | k + 1 => set (puts l a s k) ((a + k) % 4294967296) ((s.getD k 0).toNat : Int)
theorem num_range {l : Cs} (h : Rise l) (a : Int) : ∀ k : Nat, 0 ≤ num l a k ∧ num l a k < 256 ^ k
  | 0 => by simp [num]
  | k + 1 => by
    have ih := num_range h a k
    have := look_range h ((a + k) % 4294967296)
    unfold num
    have e : (256 : Int) ^ (k + 1) = 256 ^ k * 256 := Int.pow_succ ..
    have hp : (0 : Int) < 256 ^ k := Int.pow_pos (by decide)
    have h1 : look l ((a + k) % 4294967296) * 256 ^ k ≤ 255 * 256 ^ k := Int.mul_le_mul_of_nonneg_right this.2 (by omega)
    have h2 : 0 ≤ look l ((a + k) % 4294967296) * 256 ^ k := Int.mul_nonneg this.1 (by omega)
    rw [e]; omega
theorem rise_sto {l : Cs} (h : Rise l) (a v : Int) : ∀ k : Nat, Rise (sto l a v k)
  | 0 => h
  | k + 1 => rise_set (rise_sto h a v k) (by omega) (by omega)
theorem rise_puts {l : Cs} (h : Rise l) (a : Int) (s : List UInt8) : ∀ k : Nat, Rise (puts l a s k)
  | 0 => h
  | k + 1 => rise_set (rise_puts h a s k) (by omega) (by have := (s.getD k 0).toNat_lt; omega)
theorem or_nat (x y e : Nat) (hx : x < 2 ^ e) (hy : y * 2 ^ e < 4294967296) (hx' : x < 4294967296) : bits .or .u32 (x : Int) ((y * 2 ^ e : Nat) : Int) = ((x + y * 2 ^ e : Nat) : Int) := by
  rw [u32_or_nat _ _ hx' hy]
  have h : x ||| y * 2 ^ e = x + y * 2 ^ e := by
    rw [Nat.or_comm, Nat.mul_comm, ← Nat.two_pow_add_eq_or_of_lt hx, Nat.add_comm]
  rw [h]
theorem or_0 (v b : Int) (hv : 0 ≤ v ∧ v < 1) (hb : 0 ≤ b ∧ b ≤ 255) : bits .or .u32 v b = v + b * 1 := by
  obtain ⟨x, rfl⟩ := Int.eq_ofNat_of_zero_le hv.1
  obtain ⟨y, rfl⟩ := Int.eq_ofNat_of_zero_le hb.1
  have := or_nat x y 0 (by omega) (by omega) (by omega)
  rw [show y * 2 ^ 0 = y from by omega] at this
  rw [this]; omega
theorem or_1 (v b : Int) (hv : 0 ≤ v ∧ v < 256) (hb : 0 ≤ b ∧ b ≤ 255) : bits .or .u32 v (b * 256) = v + b * 256 := by
  obtain ⟨x, rfl⟩ := Int.eq_ofNat_of_zero_le hv.1
  obtain ⟨y, rfl⟩ := Int.eq_ofNat_of_zero_le hb.1
  have := or_nat x y 8 (by omega) (by omega) (by omega)
  rw [show (y : Int) * 256 = ((y * 2 ^ 8 : Nat) : Int) by omega, this]; omega
theorem or_2 (v b : Int) (hv : 0 ≤ v ∧ v < 65536) (hb : 0 ≤ b ∧ b ≤ 255) : bits .or .u32 v (b * 65536) = v + b * 65536 := by
  obtain ⟨x, rfl⟩ := Int.eq_ofNat_of_zero_le hv.1
  obtain ⟨y, rfl⟩ := Int.eq_ofNat_of_zero_le hb.1
  have := or_nat x y 16 (by omega) (by omega) (by omega)
  rw [show (y : Int) * 65536 = ((y * 2 ^ 16 : Nat) : Int) by omega, this]; omega
theorem or_3 (v b : Int) (hv : 0 ≤ v ∧ v < 16777216) (hb : 0 ≤ b ∧ b ≤ 255) : bits .or .u32 v (b * 16777216) = v + b * 16777216 := by
  obtain ⟨x, rfl⟩ := Int.eq_ofNat_of_zero_le hv.1
  obtain ⟨y, rfl⟩ := Int.eq_ofNat_of_zero_le hb.1
  have := or_nat x y 24 (by omega) (by omega) (by omega)
  rw [show (y : Int) * 16777216 = ((y * 2 ^ 24 : Nat) : Int) by omega, this]; omega
theorem lit_u8 {x y : Int} (h : (DataW.lit (Lit.int .u8 x) : DataW Unit) = .lit (.int .u8 y)) : x = y := by simpa using h
theorem puts_at (l : Cs) (a : Int) (s : ByteArray) (k : Nat) (h : k < s.size) : set (puts l a s.data.toList k) ((a + k) % 4294967296) ((s[k].toNat : Nat) : Int) = puts l a s.data.toList (k + 1) := by
  conv => rhs; unfold puts
  have e : s.data.toList.getD k 0 = s[k] := by
    rw [List.getD_eq_getElem?_getD, List.getElem?_eq_getElem (by simpa using h)]; rfl
  rw [e]
theorem sto_1 (l : Cs) {a v : Int} (h0 : 0 ≤ a) (h1 : a < 4294967296) : set (sto l a v 0) a (v % 256) = sto l a v (0 + 1) := by
  have e : (a + ((0 : Nat) : Int)) % 4294967296 = a := by omega
  conv => rhs; unfold sto
  rw [e, Int.pow_zero, Int.ediv_one]
theorem sto_2 (l : Cs) {a v : Int} : set (sto l a v 1) ((a + 1) % 4294967296) (v / 256 % 256) = sto l a v (1 + 1) := rfl
theorem sto_3 (l : Cs) {a v : Int} : set (sto l a v 2) ((a + 2) % 4294967296) (v / 65536 % 256) = sto l a v (2 + 1) := rfl
theorem sto_4 (l : Cs) {a v : Int} (h0 : 0 ≤ v) (h1 : v < 4294967296) : set (sto l a v 3) ((a + 3) % 4294967296) (v / 16777216) = sto l a v (3 + 1) := by
  rw [show v / 16777216 = v / 16777216 % 256 by omega]; rfl
theorem num_1 {l : Cs} (h : Rise l) {a : Int} (h0 : 0 ≤ a) (h1 : a < 4294967296) : Value.int .u32 (bits .or .u32 (num l a 0) (look l a % 4294967296)) = Value.int .u32 (num l a (0 + 1)) := by
  have := look_range h a
  rw [show look l a % 4294967296 = look l a by omega, show num l a 0 = 0 from rfl, or_0 _ _ (by omega) this]
  have e : (a + ((0 : Nat) : Int)) % 4294967296 = a := by omega
  unfold num; rw [e]; simp [num]
theorem num_2 {l : Cs} (h : Rise l) {a : Int} : Value.int .u32 (bits .or .u32 (num l a 1) (look l ((a + 1) % 4294967296) % 4294967296 * 256 % 4294967296)) = Value.int .u32 (num l a (1 + 1)) := by
  have := look_range h ((a + 1) % 4294967296)
  have hn := num_range h a 1
  rw [show look l ((a + 1) % 4294967296) % 4294967296 * 256 % 4294967296 = look l ((a + 1) % 4294967296) * 256 by omega, or_1 _ _ (by omega) this]
  rfl
theorem num_3 {l : Cs} (h : Rise l) {a : Int} : Value.int .u32 (bits .or .u32 (num l a 2) (look l ((a + 2) % 4294967296) % 4294967296 * 65536 % 4294967296)) = Value.int .u32 (num l a (2 + 1)) := by
  have := look_range h ((a + 2) % 4294967296)
  have hn := num_range h a 2
  rw [show look l ((a + 2) % 4294967296) % 4294967296 * 65536 % 4294967296 = look l ((a + 2) % 4294967296) * 65536 by omega, or_2 _ _ (by omega) this]
  rfl
theorem num_4 {l : Cs} (h : Rise l) {a : Int} : Value.int .u32 (bits .or .u32 (num l a 3) (look l ((a + 3) % 4294967296) % 4294967296 * 16777216 % 4294967296)) = Value.int .u32 (num l a (3 + 1)) := by
  have := look_range h ((a + 3) % 4294967296)
  have hn := num_range h a 3
  rw [show look l ((a + 3) % 4294967296) % 4294967296 * 16777216 % 4294967296 = look l ((a + 3) % 4294967296) * 16777216 by omega, or_3 _ _ (by omega) this]
  rfl
end Mm

theorem width_yes (n : Int) (h : n = 1 ∨ n = 2 ∨ n = 4) (w : World) : Calls Tryz.prog 35 #[.int .i64 n] w fun e w' => e = .returned (.bool true) ∧ w' = w := by
  rcases h with rfl | rfl | rfl
  all_goals
    go_enter Tryz.func35, Tryz.ntmps35
    go_wp2
    go_ret
    exact ⟨rfl, rfl⟩
theorem width_no (n : Int) (h : n ≠ 1 ∧ n ≠ 2 ∧ n ≠ 4) (w : World) : Calls Tryz.prog 35 #[.int .i64 n] w fun e w' => e = .returned (.bool false) ∧ w' = w := by
  have h1 : (n == 1) = false := by simp [h.1]
  have h2 : (n == 2) = false := by simp [h.2.1]
  have h3 : (n == 4) = false := by simp [h.2.2]
  go_enter Tryz.func35, Tryz.ntmps35
  go_wp2
  go_ret
  exact ⟨rfl, rfl⟩

theorem load_no {a n : Int} (p : Value) (h : n ≠ 1 ∧ n ≠ 2 ∧ n ≠ 4) (w : World) : Calls Tryz.prog 18 #[p, .int .u32 a, .int .i64 n] w fun e w' => e = .returned (.tuple #[.int .u32 0, .int .i64 1]) ∧ w' = w := by
  go_enter Tryz.func18, Tryz.ntmps18
  go_wp2_with (go_at_call 35; refine (width_no _ h _).mono ?_; rintro e w' ⟨rfl, rfl⟩)
  go_ret2
  exact ⟨rfl, rfl⟩

theorem grown_trans {a b c : World} {row : Option Nat} (h : a.grownBy b row) (k : b.grownBy c row) : a.grownBy c row := h.andThen k (fun _ e => .inr e)
def intOf : Value → Int | .int _ q => q | _ => 0

set_option maxHeartbeats 2000000 in
theorem load_any {pb bm : Nat} {l : Cs} {a n : Int} (w : World) (h : MemAt w pb bm l) (ha : 0 ≤ a ∧ a < 4294967296) (hn : n = 1 ∨ n = 2 ∨ n = 4) :
    Calls Tryz.prog 18 #[.pointer (some ⟨pb, 0, none⟩), .int .u32 a, .int .i64 n] w fun e w' => e = .returned (.tuple #[.int .u32 (num l a n.toNat), .int .i64 0]) ∧ w' = w := by
  have c0 := h.cell
  have hown := h.own
  have hr := h.rise
  obtain ⟨ha0, ha1⟩ := ha
  have hn1 : 1 ≤ n := by omega
  have hn2 : n ≤ 4 := by omega
  go_enter Tryz.func18, Tryz.ntmps18
  go_wp2_with (go_at_call 35; refine (width_yes _ hn _).mono ?_; rintro e w' ⟨rfl, rfl⟩)
  go_loop [8, 15] (fun v i => ∃ k : Nat, (k : Int) ≤ n ∧ i = .int .u32 k ∧ v = .int .u32 (num l a k)) (fun _ i => (n - intOf i).toNat)
  case atStart => exact ⟨0, by omega, rfl, rfl⟩
  case round =>
    obtain ⟨k, hk, rfl, rfl⟩ := hrel
    by_cases hlt : (k : Int) < n
    · have hk4 : k = 0 ∨ k = 1 ∨ k = 2 ∨ k = 3 := by omega
      rcases hk4 with rfl | rfl | rfl | rfl
      · go_wp2_with (first
          | (at_lookup; refine wpList_lookup_own_int _ rfl _ _ 71 rfl 22 5 .u8 lawU Tryz.underlying71 Tryz.underlying5 (zeroB _) bm _ _ rfl hown _ _ rfl (keyOf_int_mk Tryz.underlying22 (wf_u32 (by omega))) ?_; intro c hat hwc)
          | go_in)
        rw [D_atKey] at hat
        have e := lit_u8 hat
        subst e
        exact ⟨⟨1, by omega, rfl, num_1 hr ha0 ha1⟩, by simp [intOf]; omega⟩
      · go_wp2_with (first
          | (at_lookup; refine wpList_lookup_own_int _ rfl _ _ 71 rfl 22 5 .u8 lawU Tryz.underlying71 Tryz.underlying5 (zeroB _) bm _ _ rfl hown _ _ rfl (keyOf_int_mk Tryz.underlying22 (wf_u32 (by omega))) ?_; intro c hat hwc)
          | go_in)
        rw [D_atKey] at hat
        have e := lit_u8 hat
        subst e
        exact ⟨⟨2, by omega, rfl, num_2 hr⟩, by simp [intOf]; omega⟩
      · go_wp2_with (first
          | (at_lookup; refine wpList_lookup_own_int _ rfl _ _ 71 rfl 22 5 .u8 lawU Tryz.underlying71 Tryz.underlying5 (zeroB _) bm _ _ rfl hown _ _ rfl (keyOf_int_mk Tryz.underlying22 (wf_u32 (by omega))) ?_; intro c hat hwc)
          | go_in)
        rw [D_atKey] at hat
        have e := lit_u8 hat
        subst e
        exact ⟨⟨3, by omega, rfl, num_3 hr⟩, by simp [intOf]; omega⟩
      · go_wp2_with (first
          | (at_lookup; refine wpList_lookup_own_int _ rfl _ _ 71 rfl 22 5 .u8 lawU Tryz.underlying71 Tryz.underlying5 (zeroB _) bm _ _ rfl hown _ _ rfl (keyOf_int_mk Tryz.underlying22 (wf_u32 (by omega))) ?_; intro c hat hwc)
          | go_in)
        rw [D_atKey] at hat
        have e := lit_u8 hat
        subst e
        exact ⟨⟨4, by omega, rfl, num_4 hr⟩, by simp [intOf]; omega⟩
    · go_wp2
      go_ret2
      have e : n.toNat = k := by omega
      rw [e]; exact ⟨rfl, rfl⟩

theorem store_no {a n v : Int} (p : Value) (h : n ≠ 1 ∧ n ≠ 2 ∧ n ≠ 4) (w : World) : Calls Tryz.prog 31 #[p, .int .u32 a, .int .i64 n, .int .u32 v] w fun e w' => e = .returned (.int .i64 1) ∧ w' = w := by
  go_enter Tryz.func31, Tryz.ntmps31
  go_wp2_with (go_at_call 35; refine (width_no _ h _).mono ?_; rintro e w' ⟨rfl, rfl⟩)
  go_ret
  exact ⟨rfl, rfl⟩

set_option maxHeartbeats 2000000 in
theorem store_any {pb bm : Nat} {l : Cs} {a n v : Int} (w : World) (h : MemAt w pb bm l) (ha : 0 ≤ a ∧ a < 4294967296) (hn : n = 1 ∨ n = 2 ∨ n = 4) (hv : 0 ≤ v ∧ v < 4294967296) :
    Calls Tryz.prog 31 #[.pointer (some ⟨pb, 0, none⟩), .int .u32 a, .int .i64 n, .int .u32 v] w fun e w' => e = .returned (.int .i64 0) ∧ MemAt w' pb bm (sto l a v n.toNat) ∧ w.grownBy w' (some bm) := by
  obtain ⟨ha0, ha1⟩ := ha
  obtain ⟨hv0, hv1⟩ := hv
  have hn1 : 1 ≤ n := by omega
  have hn2 : n ≤ 4 := by omega
  go_enter Tryz.func31, Tryz.ntmps31
  go_wp2_with (go_at_call 35; refine (width_yes _ hn _).mono ?_; rintro e w' ⟨rfl, rfl⟩)
  go_loopw [15] (fun i wr => ∃ k : Nat, (k : Int) ≤ n ∧ i = .int .u32 k ∧ MemAt wr pb bm (sto l a v k) ∧ w'.grownBy wr (some bm)) (fun i _ => (n - intOf i).toNat)
  case atStart => exact ⟨0, by omega, rfl, h, ⟨rfl, rfl, rfl, Nat.le_refl _, fun _ _ _ => rfl⟩⟩
  case round =>
    obtain ⟨k, hk, rfl, hm, hg⟩ := hrel
    by_cases hlt : (k : Int) < n
    · have hk4 : k = 0 ∨ k = 1 ∨ k = 2 ∨ k = 3 := by omega
      rcases hk4 with rfl | rfl | rfl | rfl
      · go_wp2_with (go_at_call 33; refine (set_any _ hm (by omega) (by omega)).mono ?_; rintro e w2 ⟨rfl, hm2, hg2⟩)
        exact ⟨⟨1, by omega, rfl, sto_1 l ha0 ha1 ▸ hm2, grown_trans hg hg2⟩, by simp [intOf]; omega⟩
      · go_wp2_with (go_at_call 33; refine (set_any _ hm (by omega) (by omega)).mono ?_; rintro e w2 ⟨rfl, hm2, hg2⟩)
        exact ⟨⟨2, by omega, rfl, sto_2 l ▸ hm2, grown_trans hg hg2⟩, by simp [intOf]; omega⟩
      · go_wp2_with (go_at_call 33; refine (set_any _ hm (by omega) (by omega)).mono ?_; rintro e w2 ⟨rfl, hm2, hg2⟩)
        exact ⟨⟨3, by omega, rfl, sto_3 l ▸ hm2, grown_trans hg hg2⟩, by simp [intOf]; omega⟩
      · go_wp2_with (go_at_call 33; refine (set_any _ hm (by omega) (by omega)).mono ?_; rintro e w2 ⟨rfl, hm2, hg2⟩)
        exact ⟨⟨4, by omega, rfl, sto_4 l hv0 hv1 ▸ hm2, grown_trans hg hg2⟩, by simp [intOf]; omega⟩
    · go_wp2
      go_ret
      have e : n.toNat = k := by omega
      rw [e]; exact ⟨rfl, hm, hg⟩

set_option maxHeartbeats 2000000 in
theorem mput_any {pb bm : Nat} {l : Cs} {a : Int} {s : ByteArray} (w : World) (h : MemAt w pb bm l) (ha : 0 ≤ a ∧ a < 4294967296) (hs : s.size ≤ 65536) :
    Calls Tryz.prog 16 #[.pointer (some ⟨pb, 0, none⟩), .int .u32 a, .string s] w fun e w' => e = .returned (.tuple #[]) ∧ MemAt w' pb bm (puts l a s.data.toList s.size) ∧ w.grownBy w' (some bm) := by
  obtain ⟨ha0, ha1⟩ := ha
  go_enter Tryz.func16, Tryz.ntmps16
  go_wp2
  go_loopw [9] (fun i wr => ∃ k : Nat, k ≤ s.size ∧ i = .int .i64 k ∧ MemAt wr pb bm (puts l a s.data.toList k) ∧ w.grownBy wr (some bm)) (fun i _ => s.size - (intOf i).toNat)
  case atStart => exact ⟨0, by omega, rfl, h, ⟨rfl, rfl, rfl, Nat.le_refl _, fun _ _ _ => rfl⟩⟩
  case round =>
    obtain ⟨k, hk, rfl, hm, hg⟩ := hrel
    by_cases hlt : k < s.size
    · have hb := (s[k]).toNat_lt
      go_wp2_with (go_at_call 33; refine (set_any _ hm (by omega) (by omega)).mono ?_; rintro e w2 ⟨rfl, hm2, hg2⟩)
      exact ⟨⟨k + 1, by omega, by go_num, puts_at l a s k hlt ▸ hm2, grown_trans hg hg2⟩, by simp [intOf]; omega⟩
    · go_wp2
      go_end0
      have e : s.size = k := by omega
      rw [e]; exact ⟨rfl, hm, hg⟩
end Go.Proofs.YtilphdfobflbiaaGreat
