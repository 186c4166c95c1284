/-
  What stage 8 stands on: hidden facts, images, slices of words; contracts of image.At and of the document's At and Words.
  Words, a slice of words, an image and an instruction among a law's arguments: opened.
-/
import Derived.WalkKit
import Derived.Lib.Hide
import Derived.Deep.LoopGhost
import Derived.Laws.NewBlocks
import Derived.Deep.RegionHeld3
import Derived.ProofKit
import Derived.OpenShut
import Derived.Carry
import Derived.Deep.Slices
import Derived.ChangeSame
import Derived.ChangeMaps
import Derived.Test.YthlefedljgmmfabZd
import Derived.Test.YthlefedljgmmfabZk
namespace Go.Proofs.Ythlefedljgmmfab
open Go.RowKit Go.Lib
set_option linter.unusedSimpArgs false
set_option linter.unusedVariables false

theorem hideE {p : Prop} (h : p) : Hid p := h
theorem retb {a b : Bool} (h : a = b) : Ending.returned (.bool a) = .returned (.bool b) := by rw [h]
theorem wrE {n : Int} (h0 : -9223372036854775808 ≤ n) (h1 : n ≤ 9223372036854775807) : IntKind.i64.wrap n = n := by
  rw [IntKind.wrap_i64]; omega
theorem keptE {B : Nat} {W W' : World} {g : Nat} {o : Obj} (hb : Below B W W') (hg : g < B) (h : W.heap[g]? = some o) : W'.heap[g]? = some o := by
  rw [hb.block _ hg]; exact h
theorem keptN {W W' : World} {g : Nat} {o : Obj} (hb : Below W.heap.size W W') (h : W.heap[g]? = some o) : W'.heap[g]? = some o :=
  keptE hb (Array.getElem?_eq_some_iff.1 h).1 h
theorem four {W : World} {b : Nat} {a0 a1 a2 a3 : Value} {t : TypeId} (h : W.heap[b]? = some (.cells #[a0, a1, a2, a3] t (0, 0))) :
    (W.cell? ⟨b, 0, none⟩ = some a0 ∧ W.cell? ⟨b, 1, none⟩ = some a1 ∧ W.cell? ⟨b, 2, none⟩ = some a2 ∧ W.cell? ⟨b, 3, none⟩ = some a3) ∧
    (W.frozen? ⟨b, 0, none⟩ = false ∧ W.frozen? ⟨b, 1, none⟩ = false ∧ W.frozen? ⟨b, 2, none⟩ = false ∧ W.frozen? ⟨b, 3, none⟩ = false) := by
  simp [World.cell?, World.frozen?, h]
theorem gen_world {P : World → Prop} {W : World} (I : World → Prop) (h : I W) (k : ∀ W', I W' → P W') : P W := k W h
theorem below_setRowE {B : Nat} {a w : World} (h : Below B a w) {g : Nat} (hg : B ≤ g) (cs : Array Value) : Below B a (w.setRow g cs) :=
  h.trans ⟨rfl, rfl, rfl, by simp, fun k hk => setRow_other w g k cs (by omega)⟩
theorem drew_low (w : World) (n : Nat) (B : Nat) : Below B w (w.drewN n) := ⟨rfl, rfl, rfl, Nat.le_refl _, fun _ _ => rfl⟩
theorem own_slice {W : World} {B : Nat} {t : TypeId} {k : Nat} {v : Value} {n : Nat} {xs : List Value} (h : W.ownsRow B t k v n xs) : ∃ p m c, v = .slice p m c := by
  rcases h.2 with ⟨e, _⟩ | ⟨g, cap, cur, e, _⟩ <;> exact ⟨_, _, _, e⟩
theorem own_slice' {W : World} {B : Nat} {t : TypeId} {k : Nat} {v : Value} {n : Nat} {xs : List Value} (h : W.ownsRow B t k v n xs) : ∃ p c, v = .slice p n c := by
  rcases h.2 with ⟨e, e0⟩ | ⟨g, cap, cur, e, _⟩
  · exact ⟨none, 0, by rw [e, e0]⟩
  · exact ⟨_, _, e⟩
theorem own_some {W : World} {B : Nat} {t : TypeId} {k : Nat} {p : Option Addr} {c n : Nat} {xs : List Value} (h : W.ownsRow B t k (.slice p n c) n xs) (hn : 0 < n) : ∃ g, p = some ⟨g, 0, none⟩ := by
  rcases h.2 with ⟨_, e0⟩ | ⟨g, cap, cur, e, _⟩
  · omega
  · injection e with e1; exact ⟨g, e1⟩
structure Img where
  base : BitVec 32
  entry : BitVec 32
  words : List Nat
  seg : Nat
def Img.ok (i : Img) : Prop := i.base.toNat % 4 = 0 ∧ i.base.toNat + 4 * i.words.length ≤ 4294967296 ∧ i.words.length ≤ 1000000 ∧ ∀ n ∈ i.words, n < 4294967296
def atB (i : Img) (a : BitVec 32) : Bool := decide (a.toNat % 4 = 0 ∧ i.base.toNat ≤ a.toNat ∧ a.toNat < i.base.toNat + 4 * i.words.length)
def atW (i : Img) (a : BitVec 32) : Nat := if atB i a = true then i.words.getD ((a.toNat - i.base.toNat) / 4) 0 else 0
theorem at_yes {i : Img} {a : BitVec 32} (h : atB i a = true) : ∃ n, i.words[(a.toNat - i.base.toNat) / 4]? = some n ∧ atW i a = n ∧ (a.toNat - i.base.toNat) / 4 < i.words.length ∧ i.base.toNat ≤ a.toNat ∧ a.toNat % 4 = 0 := by
  have h' := of_decide_eq_true h
  obtain ⟨h1, h2, h3⟩ := h'
  have hlt : (a.toNat - i.base.toNat) / 4 < i.words.length := by omega
  refine ⟨i.words[(a.toNat - i.base.toNat) / 4], List.getElem?_eq_getElem hlt, ?_, hlt, h2, h1⟩
  unfold atW
  rw [if_pos h, List.getD_eq_getElem?_getD, List.getElem?_eq_getElem hlt]; rfl
theorem at_no {i : Img} {a : BitVec 32} (h : atB i a = false) : atW i a = 0 := by unfold atW; rw [if_neg (by rw [h]; simp)]

/-- A slice of words. -/
def SlW (W : World) (v : Value) (l : List Nat) : Prop :=
  (∃ p c, v = .slice p 0 c ∧ l = []) ∨ ∃ g o cap, v = .slice (some ⟨g, o, none⟩) l.length cap ∧ l.length ≤ cap ∧ g < W.heap.size ∧ ∀ (j n : Nat), l[j]? = some n → W.cell? ⟨g, o + j, none⟩ = some (.int .u32 (n : Int))
theorem SlW.belowB {B : Nat} {W W' : World} {v : Value} {l : List Nat} (h : SlW W v l) (hb : Below B W W') (hB : W.heap.size ≤ B) : SlW W' v l := by
  rcases h with h | ⟨g, o, cap, rfl, hl, hg, hc⟩
  · exact .inl h
  · exact .inr ⟨g, o, cap, rfl, hl, Nat.lt_of_lt_of_le hg hb.size, fun j n hj => by rw [hb.cell (by exact Nat.lt_of_lt_of_le hg hB)]; exact hc j n hj⟩
theorem SlW.below {W W' : World} {v : Value} {l : List Nat} (h : SlW W v l) (hb : Below W.heap.size W W') : SlW W' v l := h.belowB hb (Nat.le_refl _)
theorem SlW.alloc {W : World} {v : Value} {l : List Nat} (h : SlW W v l) (o : Obj) : SlW (W.alloc o) v l := h.below ((Below.refl _ W).alloc (Nat.le_refl _) o)
theorem SlW.len {W : World} {v : Value} {l : List Nat} (h : SlW W v l) : ∃ p c, v = .slice p l.length c ∧ (0 < l.length → l.length ≤ c) := by
  rcases h with ⟨p, c, rfl, rfl⟩ | ⟨g, o, cap, rfl, hl, _⟩
  · exact ⟨_, _, rfl, fun h => by simp at h⟩
  · exact ⟨_, _, rfl, fun _ => hl⟩
def imgV (i : Img) (v : Value) : Value := .agg #[.int .u32 (i.base.toNat : Int), .int .u32 (i.entry.toNat : Int), v, .int .i64 (i.seg : Int)]
theorem SlW.at {W : World} {p : Option Addr} {n c : Nat} {l : List Nat} (h : SlW W (.slice p n c) l) {k u : Nat} (hk : l[k]? = some u) : ∃ g o, p = some ⟨g, o, none⟩ ∧ W.cell? ⟨g, o + k, none⟩ = some (.int .u32 (u : Int)) := by
  rcases h with ⟨_, _, _, rfl⟩ | ⟨g, o, cap, e, _, _, hc⟩
  · simp at hk
  · injection e with e1 e2 e3
    exact ⟨g, o, e1, hc k u hk⟩
theorem take_stepN {la lb : List Nat} {i x : Nat} (h : la.take i = lb.take i) (ha : la[i]? = some x) (hb : lb[i]? = some x) : la.take (i + 1) = lb.take (i + 1) := by
  rw [List.take_add_one, List.take_add_one, h, ha, hb]
def wordV (n : Nat) : Value := .int .u32 (n : Int)
theorem infoW : (Try.prog.info? 23).map (fun i => (i.zero, i.size, i.bytes)) = some (some (.int .u32 0), 1, 4) := by kernel_rfl
theorem slw_of_owns {W : World} {B : Nat} {v : Value} {l : List Nat} (h : W.ownsRow B 23 1 v l.length (l.map wordV)) : SlW W v l := by
  rcases h.2 with ⟨rfl, hn⟩ | ⟨g, cap, cur, rfl, h2, h3, h4, _⟩
  · exact .inl ⟨none, 0, rfl, List.eq_nil_of_length_eq_zero hn⟩
  · refine .inr ⟨g, 0, cap, rfl, h4, (Array.getElem?_eq_some_iff.1 h3).1, fun j n hj => ?_⟩
    rw [Nat.zero_add, h.cellAt j (by rw [Nat.mul_one]; exact (List.getElem?_eq_some_iff.1 hj).1), List.getElem?_map, hj]; rfl
theorem addr_of {z : Int} (h0 : 0 ≤ z) (h1 : z < 4294967296) : ∃ a : BitVec 32, (a.toNat : Int) = z := by
  refine ⟨BitVec.ofNat 32 z.toNat, ?_⟩
  rw [BitVec.toNat_ofNat, Nat.mod_eq_of_lt (by omega)]; omega
def Hit (i : Img) (a : BitVec 32) (k : Nat) : Prop := (a.toNat : Int) % 4 = 0 ∧ (a.toNat : Int) = (i.base.toNat : Int) + 4 * (k : Int)
theorem hit_yes {i : Img} {a : BitVec 32} {k n : Nat} (hi : i.ok) (h : Hit i a k) (hk : i.words[k]? = some n) : atB i a = true ∧ atW i a = n := by
  have hlt := (List.getElem?_eq_some_iff.1 hk).1
  obtain ⟨h1, h2⟩ := h
  have hB : atB i a = true := by unfold atB; exact decide_eq_true ⟨by omega, by omega, by omega⟩
  refine ⟨hB, ?_⟩
  unfold atW
  rw [if_pos hB, show (a.toNat - i.base.toNat) / 4 = k by omega, List.getD_eq_getElem?_getD, hk]; rfl
theorem hit_no {i : Img} {a : BitVec 32} (hi : i.ok) (h : ∀ k, k < i.words.length → ¬ Hit i a k) : atB i a = false ∧ atW i a = 0 := by
  have hB : atB i a = false := by
    by_cases e : atB i a = true
    · obtain ⟨n, _, _, hlt, hle, h4⟩ := at_yes e
      have := hi.1
      exact absurd ⟨by omega, by omega⟩ (h _ hlt)
    · simpa using e
  exact ⟨hB, at_no hB⟩
end Go.Proofs.Ythlefedljgmmfab
namespace Go.Proofs.Ythlefedljgmmfab
open Go.ChangeShapes Go.WideShapes Go.ChangeAt Go.RowKit Go.Deep
set_option linter.unusedSimpArgs false

theorem laidOut6 : laidOutB Try.prog = true := by kernel_rfl
theorem cellsEU : Try.prog.cellsOf 23 = 1 := by kernel_rfl
theorem cellsEI : Try.prog.cellsOf 3 = 1 := by kernel_rfl
theorem spotE {w : World} {a : Addr} {v : Value} (h : w.cell? a = some v) : a.spot = none := by
  unfold World.cell? at h
  split at h <;> simp_all
theorem ltE {w : World} {a : Addr} {v : Value} (h : w.cell? a = some v) : a.block < w.heap.size := by
  unfold World.cell? at h
  split at h
  · rename_i e; exact (Array.getElem?_eq_some_iff.1 e).1
  · cases h
theorem addE (a : Addr) (i j : Nat) (h : a.spot = none) : (a.add i).add j = ⟨a.block, a.off + i + j, none⟩ := by
  obtain ⟨b, o, s⟩ := a
  simp only at h
  subst h
  unfold Addr.add
  by_cases hi : i = 0 <;> by_cases hj : j = 0 <;> simp [hi, hj]
theorem u32_of (a : Int) (h : (Lit.int .u32 a).wf = true) : ∃ x : BitVec 32, a = (x.toNat : Int) := by
  have hb := bounds_u32 h
  refine ⟨BitVec.ofNat 32 a.toNat, ?_⟩
  rw [BitVec.toNat_ofNat, Nat.mod_eq_of_lt (by omega)]; omega
theorem list4 {α : Type} {cs : List α} (h : cs.length = 4) : ∃ c0 c1 c2 c3, cs = [c0, c1, c2, c3] := by
  match cs, h with
  | [c0, c1, c2, c3], _ => exact ⟨c0, c1, c2, c3, rfl⟩
/-- A slice that is nil, or leads somewhere. -/
def SlP (u : Value) : Prop := u = .slice none 0 0 ∨ ∃ a n c, u = .slice (some a) n c
section
variable {H : Type} {enc : TypeId × Value → H} {W : World}
set_option maxRecDepth 100000 in
theorem open_word1 {base : Nat} {spare : Nat → Bool} {held : Bool} {fuel : Nat} {cs : List Value} {x : DataW H × List MemPlace} (h : DataW.trod enc Try.prog W base spare held fuel 23 cs = some x) : ∃ z : BitVec 32, cs = [.int .u32 (z.toNat : Int)] := by
  obtain ⟨a, e, _, hw⟩ := DataW.trod_int Try.underlying23 h
  obtain ⟨z, rfl⟩ := u32_of a hw
  exact ⟨z, e⟩
set_option maxRecDepth 100000 in
theorem open_words {v : Value} {d : DataW H} {p : List MemPlace} (hv : Value.okWide Try.prog W .any 0 107 v) (h : DataW.Trod enc Try.prog W 0 (fun _ => true) true 107 v d p) :
    ∃ l : List Nat, SlW W v l ∧ (∀ n ∈ l, n < 4294967296) ∧ SlP v := by
  obtain ⟨p0, l0, c0, rfl⟩ := okWide_slice Try.underlying107 hv
  obtain ⟨fuel, hf⟩ := h
  rcases open_slice Try.underlying107 hf with ⟨h0, _⟩ | ⟨a, len, cap, m, n, D, Pl, h0, hb, hl, hm, hmm, _, hx⟩
  · simp [Value.cells] at h0
    obtain ⟨rfl, rfl, rfl⟩ := h0
    exact ⟨[], .inl ⟨_, _, rfl, rfl⟩, fun n hn => by simp at hn, .inl rfl⟩
  · simp [Value.cells] at h0
    obtain ⟨rfl, rfl, rfl⟩ := h0
    simp only [if_true] at hmm
    subst hmm
    have each : ∀ i, i < l0 → ∃ z : BitVec 32, W.cell? (a.add i) = some (.int .u32 (z.toNat : Int)) := by
      intro i hi
      obtain ⟨cs', h1, h2⟩ := hx i (by omega)
      rw [cellsEU, Nat.mul_one] at h1
      obtain ⟨_, hlen, hcell⟩ := World.cells?_some h1
      obtain ⟨z, rfl⟩ := open_word1 h2
      have := hcell 0 (by omega)
      refine ⟨z, ?_⟩
      have e : (a.add i).add 0 = a.add i := by unfold Addr.add; simp
      rw [e] at this
      simpa using this
    obtain ⟨f, hf⟩ := choose_lt each
    refine ⟨(List.range l0).map (fun i => (f i).toNat), ?_, fun n hn => ?_, .inr ⟨_, _, _, rfl⟩⟩
    · by_cases hz : l0 = 0
      · subst hz; exact .inl ⟨_, _, rfl, rfl⟩
      · have c0 := hf 0 (by omega)
        rw [show a.add 0 = a by unfold Addr.add; simp] at c0
        have hsp : a.spot = none := spotE (w := W) (a := a) c0
        have hlt : a.block < W.heap.size := ltE (w := W) (a := a) c0
        obtain ⟨b, o, s⟩ := a
        simp only at hsp hlt
        subst hsp
        refine .inr ⟨b, o, m, by simp, by simpa using hl, hlt, fun j n hj => ?_⟩
        rw [List.getElem?_map] at hj
        cases e : (List.range l0)[j]? with
        | none => rw [e] at hj; cases hj
        | some i =>
          rw [e] at hj
          simp only [Option.map_some, Option.some.injEq] at hj
          obtain ⟨hi, hij⟩ := List.getElem?_eq_some_iff.1 e
          simp at hij hi
          subst hij hj
          have := hf j hi
          rw [show (⟨b, o, none⟩ : Addr).add j = ⟨b, o + j, none⟩ by unfold Addr.add; split <;> simp_all] at this
          exact this
    · obtain ⟨i, hi, rfl⟩ := List.mem_map.1 hn
      exact (f i).isLt
set_option maxRecDepth 100000 in
theorem open_wordsC {fuel : Nat} {cs : List Value} {x : DataW H × List MemPlace} (h : DataW.trod enc Try.prog W 0 (fun _ => true) true fuel 107 cs = some x) : ∃ v l, cs = [v] ∧ SlW W v l ∧ (∀ n ∈ l, n < 4294967296) ∧ SlP v := by
  rcases open_slice Try.underlying107 h with ⟨h0, _⟩ | ⟨a, len, cap, m, n, D, Pl, h0, hb, hl, hm, hmm, _, hx⟩
  · exact ⟨_, [], h0, .inl ⟨none, 0, rfl, rfl⟩, fun n hn => by simp at hn, .inl rfl⟩
  · simp only [if_true] at hmm
    subst hmm
    have each : ∀ i, i < len → ∃ z : BitVec 32, W.cell? (a.add i) = some (.int .u32 (z.toNat : Int)) := by
      intro i hi
      obtain ⟨cs', h1, h2⟩ := hx i (by omega)
      rw [cellsEU, Nat.mul_one] at h1
      obtain ⟨_, hlen, hcell⟩ := World.cells?_some h1
      obtain ⟨z, rfl⟩ := open_word1 h2
      have := hcell 0 (by omega)
      refine ⟨z, ?_⟩
      have e : (a.add i).add 0 = a.add i := by unfold Addr.add; simp
      rw [e] at this
      simpa using this
    obtain ⟨f, hf⟩ := choose_lt each
    refine ⟨_, (List.range len).map (fun i => (f i).toNat), h0, ?_, fun n hn => ?_, .inr ⟨_, _, _, rfl⟩⟩
    · by_cases hz : len = 0
      · subst hz; exact .inl ⟨_, _, rfl, rfl⟩
      · have c0 := hf 0 (by omega)
        rw [show a.add 0 = a by unfold Addr.add; simp] at c0
        have hsp : a.spot = none := spotE (w := W) (a := a) c0
        have hlt : a.block < W.heap.size := ltE (w := W) (a := a) c0
        obtain ⟨b, o, s⟩ := a
        simp only at hsp hlt
        subst hsp
        refine .inr ⟨b, o, m, by simp, by simpa using hl, hlt, fun j n hj => ?_⟩
        rw [List.getElem?_map] at hj
        cases e : (List.range len)[j]? with
        | none => rw [e] at hj; cases hj
        | some i =>
          rw [e] at hj
          simp only [Option.map_some, Option.some.injEq] at hj
          obtain ⟨hi, hij⟩ := List.getElem?_eq_some_iff.1 e
          simp at hij hi
          subst hij hj
          have := hf j hi
          rw [show (⟨b, o, none⟩ : Addr).add j = ⟨b, o + j, none⟩ by unfold Addr.add; split <;> simp_all] at this
          exact this
    · obtain ⟨i, hi, rfl⟩ := List.mem_map.1 hn
      exact (f i).isLt
end
end Go.Proofs.Ythlefedljgmmfab
